/- BankOthers, walked, where Put says yes. -/
import Derived.Test.YtienamngmalkaaaOt0
namespace Go.Proofs.Ytienamngmalkaaa
open Go.RowKit

set_option maxRecDepth 8000
set_option linter.unusedSimpArgs false in
set_option maxHeartbeats 16000000 in
theorem others_yes (L : List Rg) (P : List Ct) (x : Nat) (how : Int) (r : Rg) (c : Ct) (w : World) (hx : x < 256) (R0 : Hid (Rdb w L P)) (R1 : Hid (Rd w r c)) (hE0 : (putP P x how c).2 = 0) :
    Calls Try.prog 5 #[.agg (bk L), .agg #[.int .u8 (x : Int), .int .i64 how, .bool r.s, .bool r.l, .slice r.a r.n r.c]] w fun e w' => e = .returned (.bool true) ∧ Below w.heap.size w w' := by
  have hz := z28
  have hbz := b28
  obtain ⟨rs, rgl, ra, rn, rc⟩ := r
  obtain ⟨cs, cl, ct⟩ := c
  have er1 : rs = cs := R1.out.s
  have er2 : rgl = cl := R1.out.l
  subst er1 er2
  have HT : Hid (Tx w ra rn rc ct) := R1.out.t
  have hrn : rn ≤ 140737488351232 := R1.out.n
  have hlen := Hid.mk' HT.out.len
  have hP := R0.out.2.1
  have hL := R0.out.1
  dsimp only
  clear R1
  have hxI : (x : Int) < 256 := by omega
  obtain ⟨fc, hfc⟩ : ∃ f : Array Value, f = #[.int .u8 (x : Int), .int .i64 how, .bool rs, .bool rgl, .slice ra rn rc] := ⟨_, rfl⟩
  generalize hW2 : (w.alloc (.cells (bk L) 28)).alloc (.cells #[.int .u8 (x : Int), .int .i64 how, .bool rs, .bool rgl, .slice ra rn rc] 40) = W2
  have B0 : Hid (Blk W2 w.heap.size 28 (bk L)) := by rw [← hW2]; exact (Blk.new w 28 _).keep (bAlloc (Below.refl _ _) _)
  have B1 : Hid (Blk W2 (w.heap.size + 1) 40 fc) := by
    rw [← hW2, hfc]
    have := Blk.new (w.alloc (.cells (bk L) 28)) 40 #[.int .u8 (x : Int), .int .i64 how, .bool rs, .bool rgl, .slice ra rn rc]
    rwa [World.size_alloc] at this
  have BE : Hid (Below w.heap.size w W2) := by rw [← hW2]; exact bAlloc (bAlloc (Below.refl _ _) _) _
  have CA := Hid.mk' (awake_any W2)
  have HF := Hid.mk' hfc
  clear hfc
  go_enter Try.func5, Try.ntmps5
  go_wp2_with fail
  clear hW2
  refine CA.out.mono ?_
  rintro e w3 ⟨rfl, hb3⟩
  have K0 := Hid.mk' (B0.out.keep hb3)
  have K1 := Hid.mk' (B1.out.keep hb3)
  have BL := Hid.mk' (bT BE.out hb3)
  clear hb3 CA B0 B1 BE
  have FC := Hid.mk' (fun W (h : Blk W (w.heap.size + 1) 40 fc) => (show W.cell? ⟨w.heap.size + 1, 0, none⟩ = some (.int .u8 (x : Int)) ∧ W.cell? ⟨w.heap.size + 1, 1, none⟩ = some (.int .i64 how) ∧ W.cell? ⟨w.heap.size + 1, 2, none⟩ = some (.bool rs) ∧ W.cell? ⟨w.heap.size + 1, 3, none⟩ = some (.bool rgl) ∧ W.cell? ⟨w.heap.size + 1, 4, none⟩ = some (.slice ra rn rc) from by rw [HF.out] at h; exact ⟨h.cell rfl, h.cell rfl, h.cell rfl, h.cell rfl, h.cell rfl⟩))
  obtain ⟨f0, f1, f2, f3, f4⟩ := FC.out w3 K1.out
  have CP := Hid.mk' (put_any L P x how rs rgl ra rn rc ct w3 hx (R0.out.keep BL.out) (HT.out.keep BL.out))
  generalize hPP : putP P x how ⟨rs, rgl, ct⟩ = PP at CP
  obtain ⟨P1, E⟩ := PP
  have hE : E = 0 := by rw [hPP] at hE0; exact hE0
  subst hE
  dsimp only at CP
  go_wp2_with (refine wl_load28 (.tmp 2) rfl rfl rfl hL K0.out ?_)
  refine CP.out.mono ?_
  rintro e w4 ⟨N1, rfl, hN1⟩
  have hl1 := hN1.len
  have hBz := Hid.mk' (Blk.new w4 28 (bk zb))
  obtain ⟨hbx, hbb⟩ := boxed (w := w4) hl1
  have hb4 := hN1.own.bel
  have hsh1 : ∀ (k : Nat) (c : Ct), P1[k]? = some c → c.t.length ≤ 140737488351232 := by
    have := putP_short hP (rdb_short R0.out) x how ⟨rs, rgl, ct⟩
    rw [hPP] at this; exact this
  have hR1 := hN1.rdb hsh1
  obtain ⟨p, hp⟩ : ∃ p, p = w4.heap.size := ⟨_, rfl⟩
  have OS : Hid (Os w L P fc p N1 P1 (put28 (w4.alloc (.cells (bk zb) 28)) w4.heap.size N1)) := ⟨(K0.out.keep hb4).keep hbb, (K1.out.keep hb4).keep hbb, by rw [hp]; exact hbx, R0.out.keep (bT BL.out (bT hb4 hbb)), hR1.keep hbb, bT BL.out (bT hb4 hbb)⟩
  clear hbx hbb hb4 hN1 CP K0 K1 BL f0 f1 f2 f3 f4 hR1 hsh1
  go_upto_region 4 with (refine wl_store28 (.tmp 5) (.tmp 30) rfl rfl rfl rfl hl1 rfl hBz.out ?_)
  generalize put28 (w4.alloc (.cells (bk zb) 28)) w4.heap.size N1 = w5 at *
  rw [← hp]
  clear hp hBz
  have HPP := Hid.mk' hPP
  clear hPP
  have hput0 : (putP P x how ⟨rs, rgl, ct⟩).2 = 0 := by rw [HPP.out]
  obtain ⟨d, hds, hdg, hdl, hdp, hd1, hd2⟩ := get_put hP hput0
  have HGO : Hid (∀ y, (y = 45 ∨ (49 ≤ y ∧ y ≤ 57) ∨ (97 ≤ y ∧ y ≤ 122)) → y ≠ smN x → (x = 0 ∨ x = 34 → (how = 3 → y ≠ 45) ∧ (how = 2 → ¬ (49 ≤ y ∧ y ≤ 57))) → getP P1 y = getP P y) := fun y h1 h2 h3 => by
    have := get_other hP hput0 h1 h2 h3
    rw [HPP.out] at this; exact this
  rw [HPP.out] at hd1 hd2
  have hgr : grt x = true ∨ x < 65 ∨ 97 ≤ x := by
    obtain ⟨k, hk, -⟩ := putP_ok hput0
    unfold grt
    rcases Nat.lt_or_ge x 65 with h1 | h1
    · exact .inr (.inl h1)
    · rcases Nat.lt_or_ge x 97 with h2 | h2
      · rcases Nat.lt_or_ge 90 x with h3 | h3
        · unfold rix at hk
          rw [if_neg (by omega), if_neg (by omega), if_neg (by omega), if_neg (by omega), if_neg (by omega)] at hk
          cases hk
        · exact .inl (by simp; omega)
      · exact .inr (.inr h2)
  obtain ⟨ds, dl, dt⟩ := d
  dsimp only at hds hdg hdl
  subst hds
  have HDP := Hid.mk' hdp
  clear hput0 HPP hdp
  have CG1 := Hid.mk' (get_any N1 P1 x w5 hx OS.out.r1)
  rw [hd1] at CG1
  unfold gE at CG1
  dsimp only at CG1
  obtain ⟨f0, f1, f2, f3, f4⟩ := FC.out w5 OS.out.b1
  have KM := Hid.mk' OS.out.b2
  go_wp2_with (refine wl_load28 (.tmp 5) rfl rfl rfl hl1 KM.out ?_)
  refine CG1.out.mono ?_
  rintro e w6 ⟨a6, c6, n6, hn6, rfl, hO6, hb6⟩
  obtain ⟨a9, c9, hv9, hT9⟩ := own_txl hO6 (by omega)
  have HN6 := Hid.mk' hn6
  clear hn6
  obtain ⟨ea, ec⟩ : a6 = a9 ∧ c6 = c9 := by simpa using hv9
  subst ea ec
  have hba := bAlloc (Below.refl _ w6) (.cells #[.bool true, .bool dl, .slice a6 n6 c6] 24)
  have X6 := Hid.mk' (Blk.new w6 24 #[.bool true, .bool dl, .slice a6 n6 c6])
  have O6 := Hid.mk' ((OS.out.keep hb6).keep hba)
  have T6 := Hid.mk' (hT9.keep hba)
  obtain ⟨p6, hp6⟩ : ∃ p, p = w6.heap.size := ⟨_, rfl⟩
  clear hO6 hb6 hv9 hT9 hba CG1 KM OS f0 f1 f2 f3 f4
  have CG2 := Hid.mk' (get_any N1 P1 0 (w6.alloc (.cells #[.bool true, .bool dl, .slice a6 n6 c6] 24)) (by decide) O6.out.r1)
  rw [hd2] at CG2
  unfold gE at CG2
  dsimp only at CG2
  clear hd1 hd2
  have KM := Hid.mk' O6.out.b2
  go_wp2_with (refine wl_load28 (.tmp 5) rfl rfl rfl hl1 KM.out ?_)
  generalize w6.alloc (.cells #[.bool true, .bool dl, .slice a6 n6 c6] 24) = w7 at *
  rw [← hp6] at X6 ⊢
  clear hp6
  refine CG2.out.mono ?_
  rintro e w8 ⟨a8, c8, n8, hn8, rfl, hO8, hb8⟩
  obtain ⟨a9, c9, hv9, hT9⟩ := own_txl hO8 (by omega)
  have HN8 := Hid.mk' hn8
  clear hn8
  obtain ⟨ea, ec⟩ : a8 = a9 ∧ c8 = c9 := by simpa using hv9
  subst ea ec
  have hba := bAlloc (Below.refl _ w8) (.cells #[.bool true, .bool dl, .slice a8 n8 c8] 24)
  have X8 := Hid.mk' (Blk.new w8 24 #[.bool true, .bool dl, .slice a8 n8 c8])
  have O8 := Hid.mk' ((O6.out.keep hb8).keep hba)
  have X7 := Hid.mk' ((X6.out.keep hb8).keep hba)
  have T7 := Hid.mk' ((T6.out.keep hb8).keep hba)
  have T8 := Hid.mk' (hT9.keep hba)
  obtain ⟨p8, hp8⟩ : ∃ p, w8.heap.size = p := ⟨_, rfl⟩
  clear hO8 hb8 hv9 hT9 hba CG2 KM O6 X6 T6
  generalize hWB : w8.alloc (.cells #[.bool true, .bool dl, .slice a8 n8 c8] 24) = w9 at *
  rw [hp8] at X8
  have y0 : w9.cell? ⟨p6, 0, none⟩ = some (.bool true) := X7.out.cell rfl
  have y1 : w9.cell? ⟨p6, 1, none⟩ = some (.bool dl) := X7.out.cell rfl
  have y2 : w9.cell? ⟨p6, 2, none⟩ = some (.slice a6 n6 c6) := X7.out.cell rfl
  have z0 : w9.cell? ⟨p8, 0, none⟩ = some (.bool true) := X8.out.cell rfl
  have z1 : w9.cell? ⟨p8, 1, none⟩ = some (.bool dl) := X8.out.cell rfl
  have z2 : w9.cell? ⟨p8, 2, none⟩ = some (.slice a8 n8 c8) := X8.out.cell rfl
  have CS1 := Hid.mk' (same_yes true dl a6 a8 n6 n8 c6 c8 dt w9 T7.out T8.out)
  go_wp2_with fail
  refine CS1.out.mono ?_
  rintro e wa ⟨rfl, hba⟩
  have OA := Hid.mk' (O8.out.keep hba)
  have XA := Hid.mk' (X7.out.keep hba)
  have TA := Hid.mk' (T7.out.keep hba)
  clear hba CS1 O8 X7 X8 T7 T8 y0 y1 y2 z0 z1 z2 hWB hp8
  have y0 : wa.cell? ⟨p6, 0, none⟩ = some (.bool true) := XA.out.cell rfl
  have y1 : wa.cell? ⟨p6, 1, none⟩ = some (.bool dl) := XA.out.cell rfl
  have y2 : wa.cell? ⟨p6, 2, none⟩ = some (.slice a6 n6 c6) := XA.out.cell rfl
  obtain ⟨f0, f1, f2, f3, f4⟩ := FC.out wa OA.out.b1
  have hsub : IntKind.i64.wrap ((n6 : Int) - (rn : Int)) = (n6 : Int) - (rn : Int) := by rw [IntKind.wrap_i64]; have := hlen.out; have := HN6.out; omega
  have hsub2 : ¬ (n6 : Int) - (rn : Int) < 0 := by have := hlen.out; have := HN6.out; omega
  have HS3 : Hid (decide ((n6 : Int) - (rn : Int) < 0) = false) := by unfold Hid; simpa using hsub2
  clear hdg hdl
  go_upto_region 11 with fail
  go_cut [92] from 19 to 92 (fun x92 wx => x92 = .bool false ∧ Hid (Os w L P fc p N1 P1 wx))
  case first =>
    rcases hgr with hg | hg
    · have hg1 : (65 : Int) ≤ (x : Int) ∧ (x : Int) ≤ 90 := by unfold grt at hg; simp at hg; omega
      obtain ⟨hg1, hg2⟩ := hg1
      have hg3 : ¬ (x : Int) < 65 := by omega
      have hg4 : ¬ 97 ≤ (x : Int) := by omega
      go_wp2_with fail
      go_meet
      exact ⟨by rw [HS3.out], OA.out⟩
    · have hd9 := HDP.out (by unfold grt; simp; omega)
      have e1 : dl = rgl := by injection hd9
      have e2 : dt = ct := by injection hd9
      subst e1 e2
      have CS2 := Hid.mk' (same_yes true dl a6 ra n6 rn c6 rc dt wa TA.out (HT.out.keep OA.out.bel))
      by_cases hg1 : (x : Int) < 65
      · go_wp2_with fail
        refine CS2.out.mono ?_
        rintro e wb ⟨rfl, hbb⟩
        have OB := Hid.mk' (OA.out.keep hbb)
        clear hbb
        go_wp2_with fail
        go_meet
        exact ⟨by rw [HS3.out], OB.out⟩
      · have hg2 : 97 ≤ (x : Int) := by omega
        go_wp2_with fail
        refine CS2.out.mono ?_
        rintro e wb ⟨rfl, hbb⟩
        have OB := Hid.mk' (OA.out.keep hbb)
        clear hbb
        go_wp2_with fail
        go_meet
        exact ⟨by rw [HS3.out], OB.out⟩
  case rest =>
  obtain ⟨rfl, OC⟩ := hcut
  clear y0 y1 y2 f0 f1 f2 f3 f4 OA XA TA hsub hsub2
  obtain ⟨f0, f1, f2, f3, f4⟩ := FC.out wc OC.out.b1
  obtain ⟨pl, hpl⟩ : ∃ b : Bool, b = (decide (x = 0) || decide (x = 34)) := ⟨_, rfl⟩
  have HPL := Hid.mk' hpl
  clear hpl
  have CN := Hid.mk' (names_any wc)
  go_upto_region 13 with fail
  go_cut [12] from 93 to 100 (fun x12 wx => x12 = .bool pl ∧ wx = wc)
  case first =>
    by_cases h0 : x = 0
    · subst h0
      have e : pl = true := by rw [HPL.out]; rfl
      subst e
      go_wp2_with fail
      go_meet
      exact ⟨rfl, rfl⟩
    · have h0' : ((x : Int) == 0) = false := by simp; omega
      by_cases h1 : x = 34
      · subst h1
        have e : pl = true := by rw [HPL.out]; rfl
        subst e
        go_wp2_with fail
        go_meet
        exact ⟨rfl, rfl⟩
      · have h1' : ((x : Int) == 34) = false := by simp; omega
        have e : pl = false := by rw [HPL.out]; simp [h0, h1]
        subst e
        go_wp2_with fail
        go_meet
        exact ⟨by simp [h0', h1'], rfl⟩
  case rest =>
  obtain ⟨rfl, hwc⟩ := hcut
  subst hwc
  go_wp2_with fail
  refine CN.out.mono ?_
  rintro e w2b ⟨rfl, hw⟩
  have hq := hw.symm
  subst hq
  clear hw CN f0 f1 f2 f3 f4
  have HNS : Hid (∀ i : Nat, i < 36 → ∀ W, (Instr.index 9 (.string ⟨nmL.toArray⟩) (.int .i64 (i : Int))).run Try.prog W = .ok (.int .u8 ((at8 nmL i).toNat : Int)) W) := fun i hi W => nm_at hi W
  have hsz : (⟨nmL.toArray⟩ : ByteArray).size = 36 := rfl
  have HGT : Hid (∀ i : Nat, i < 36 → ∀ h : i < (⟨nmL.toArray⟩ : ByteArray).size, (⟨nmL.toArray⟩ : ByteArray)[i]'h = at8 nmL i) := fun i hi h => by rw [at8_eq (show i < nmL.length from hi)]; rfl
  have HSM := Hid.mk' (fun W => small_any x W hx)
  have hsm : smN x < 256 := by
    unfold smN
    split <;> omega
  generalize hNSe : (⟨nmL.toArray⟩ : ByteArray) = NS at *
  clear hNSe
  go_wp2_with fail
  go_loopg [14] 36 (fun m x14 wx => ∃ i : Nat, x14 = .int .i64 (i : Int) ∧ i + m = 36 ∧ Hid (Os w L P fc p N1 P1 wx))
  case atStart => exact ⟨0, rfl, rfl, OC.out⟩
  case round =>
    obtain ⟨i, rfl, him, OI⟩ := hrel
    clear OC
    by_cases hi : i < 36
    · have hi' : (i : Int) < 36 := by omega
      have hi0 : (0 : Int) ≤ (i : Int) := by omega
      have hNi := HNS.out i hi
      have hgt := HGT.out i hi
      have hkd := nm_kind i hi
      have hY8 := (at8 nmL i).toNat_lt
      obtain ⟨y8, hy8⟩ : ∃ y, y = at8 nmL i := ⟨_, rfl⟩
      rw [← hy8] at hNi hgt hkd hY8
      obtain ⟨Y, hYe⟩ : ∃ y, y = y8.toNat := ⟨_, rfl⟩
      have hYe' := hYe.symm
      rw [hYe'] at hNi hkd hY8
      have HKD := Hid.mk' hkd
      clear hy8 hYe hkd
      obtain ⟨f0, f1, f2, f3, f4⟩ := FC.out wr OI.out.b1
      obtain ⟨sk, hsk⟩ : ∃ b : Bool, b = (decide (Y = smN x) || (pl && ((decide (Y = 45) && decide (how = 3)) || (decide (49 ≤ Y ∧ Y ≤ 57) && decide (how = 2))))) := ⟨_, rfl⟩
      have HSK := Hid.mk' hsk
      clear hsk
      go_upto_region 18 with fail
      go_cut [145] from 102 to 145 (fun x145 wx => x145 = .bool sk ∧ Hid (Os w L P fc p N1 P1 wx))
      case first =>
        have hkd := HKD.out
        have hyI : ∀ z : Nat, ((Y : Int) == (z : Int)) = decide (Y = z) := fun z => by by_cases h : Y = z <;> simp [h] <;> omega
        have q1 := hyI (smN x)
        have q2 : ((Y : Int) == 45) = decide (Y = 45) := hyI 45
        clear hyI
        by_cases c1 : Y = smN x
        · rw [decide_eq_true c1] at q1
          have e9 : sk = true := by rw [HSK.out]; simp [*]
          subst e9
          go_quiet ((go_at_call 19; exact Calls.quiet_of_same (HSM.out _)))
          go_wp2_with fail
          go_meet
          exact ⟨rfl, OI.out.drewN _⟩
        · rw [decide_eq_false c1] at q1
          cases hpl2 : pl with
          | false =>
            subst hpl2
            have e9 : sk = false := by rw [HSK.out]; simp [*]
            subst e9
            go_quiet ((go_at_call 19; exact Calls.quiet_of_same (HSM.out _)))
            go_wp2_with fail
            go_meet
            exact ⟨rfl, OI.out.drewN _⟩
          | true =>
            subst hpl2
            by_cases c2 : Y = 45
            · subst c2
              have q1' : ((45 : Int) == (smN x : Int)) = false := by simp; omega
              have c1' : ¬ 45 = smN x := c1
              clear q1 q2 hkd c1
              by_cases c3 : how = 3
              · subst c3
                have e9 : sk = true := by rw [HSK.out]; simp
                subst e9
                go_quiet ((go_at_call 19; exact Calls.quiet_of_same (HSM.out _)))
                go_wp2_with fail
                go_meet
                exact ⟨rfl, OI.out.drewN _⟩
              · have e3 : (how == 3) = false := by simpa using c3
                have e9 : sk = false := by rw [HSK.out]; simp [c1', c3]
                subst e9
                go_quiet ((go_at_call 19; exact Calls.quiet_of_same (HSM.out _)))
                go_wp2_with fail
                go_meet
                exact ⟨rfl, OI.out.drewN _⟩
            · rw [decide_eq_false c2] at q2
              by_cases c4 : Y ≤ 57
              · have n1 : 49 ≤ (Y : Int) := by omega
                have n2 : (Y : Int) ≤ 57 := by omega
                have n3 : 49 ≤ Y := by omega
                by_cases c5 : how = 2
                · subst c5
                  have e9 : sk = true := by rw [HSK.out]; simp [*]
                  subst e9
                  go_quiet ((go_at_call 19; exact Calls.quiet_of_same (HSM.out _)))
                  go_wp2_with fail
                  go_meet
                  exact ⟨rfl, OI.out.drewN _⟩
                · have e3 : (how == 2) = false := by simpa using c5
                  have e9 : sk = false := by rw [HSK.out]; simp [*]
                  subst e9
                  go_quiet ((go_at_call 19; exact Calls.quiet_of_same (HSM.out _)))
                  go_wp2_with fail
                  go_meet
                  exact ⟨rfl, OI.out.drewN _⟩
              · have n1 : 49 ≤ (Y : Int) := by omega
                have n2 : ¬ (Y : Int) ≤ 57 := by omega
                have e9 : sk = false := by rw [HSK.out]; simp [*]
                subst e9
                go_quiet ((go_at_call 19; exact Calls.quiet_of_same (HSM.out _)))
                go_wp2_with fail
                go_meet
                exact ⟨rfl, OI.out.drewN _⟩
      case rest =>
      obtain ⟨rfl, OJ⟩ := hcut
      clear OI f0 f1 f2 f3 f4
      cases hs : sk with
      | true =>
        subst hs
        go_wp2
        go_roundg (gk - 1)
        case rel => exact ⟨i + 1, by go_num, by omega, OJ.out⟩
        case measure => omega
      | false =>
        subst hs
        have hsk := HSK.out
        have hget : getP P1 Y = getP P Y := HGO.out Y HKD.out (fun e => by simp [e] at hsk) (fun hx0 => by
          have e9 : pl = true := by rw [HPL.out]; rcases hx0 with h | h <;> simp [h]
          rw [e9] at hsk
          refine ⟨fun h3 h4 => ?_, fun h3 h4 => ?_⟩
          · simp [h3, h4] at hsk
          · simp [h3, h4] at hsk)
        have GA := Hid.mk' (fun W (h : Os w L P fc p N1 P1 W) => get_any L P Y W hY8 h.r0)
        have GB := Hid.mk' (fun W (h : Os w L P fc p N1 P1 W) => get_any N1 P1 Y W hY8 h.r1)
        rw [hget] at GB
        have hgl0 : (getP P Y).1.t.length ≤ 150000000000000 := by
          unfold getP
          cases hk : rix Y with
          | none => exact Nat.zero_le _
          | some k =>
            dsimp only
            have hk37 := rix_lt hk
            have hkl : k < P.length := by omega
            have h5 := rdb_short R0.out k P[k] (List.getElem?_eq_getElem hkl)
            have e5 : P.getD k zc = P[k] := by rw [List.getD_eq_getElem?_getD, List.getElem?_eq_getElem hkl]; rfl
            rw [e5]
            split
            · show P[k].t.length ≤ _
              omega
            · exact Nat.zero_le _
        unfold gE at GA GB
        generalize hGP : getP P Y = GP at GA GB hgl0
        clear hGP
        obtain ⟨⟨gs, gl, gt⟩, gE1⟩ := GP
        try dsimp only at GA
        try dsimp only at GB
        try dsimp only at hgl0
        have hgl : gt.length ≤ 150000000000000 := hgl0
        clear hget hsk hgl0
        go_upto_region 19 with fail
        go_cut [15, 16] from 146 to 153 (fun x15 x16 wx => x16 = .int .i64 gE1 ∧ ∃ qa ga gn gc, x15 = .pointer (some ⟨qa, 0, none⟩) ∧ Hid (Blk wx qa 24 #[.bool gs, .bool gl, .slice ga gn gc]) ∧ Hid (Tx wx ga gn gc gt) ∧ Hid (Os w L P fc p N1 P1 wx))
        case first =>
          have OD := Hid.mk' (OJ.out.keep (Below.refl _ _).drew)
          refine wp_region_held (S := fun w' => Blk w' w.heap.size 28 (bk L)) (by kernel_rfl) ?_
          change wpAnyH _ _ _ _ _ _ _ _ (World.drew _)
          generalize wc.drew = V3 at *
          refine wpAnyH_take (i := 0) (v := .agg (bk L)) rfl (by kernel_rfl) (by kernel_rfl) (by kernel_rfl) (fun _ _ _ h => h) (yi28 rfl (.tmp 2) rfl rfl hL (fun _ h => h)) OD.out.b0 ?_
          try simp only [Act.put, List.getElem_toArray, List.getElem_cons_zero, List.getElem_cons_succ, List.setIfInBounds_toArray, List.set_cons_zero, List.set_cons_succ]
          refine wpAnyH_take (i := 1) (v := .string NS) rfl (by kernel_rfl) (by kernel_rfl) (by kernel_rfl) (fun _ _ _ h => h) (Yields.yieldsIf (Or.inl ⟨by rfl, fun w => by go_simp⟩)) OD.out.b0 ?_
          try simp only [Act.put, List.getElem_toArray, List.getElem_cons_zero, List.getElem_cons_succ, List.setIfInBounds_toArray, List.set_cons_zero, List.set_cons_succ]
          refine wpAnyH_take (i := 2) (v := .int .i64 (i : Int)) rfl (by kernel_rfl) (by kernel_rfl) (by kernel_rfl) (fun _ _ _ h => h) (Yields.yieldsIf (Or.inl ⟨by rfl, fun w => by go_simp⟩)) OD.out.b0 ?_
          try simp only [Act.put, List.getElem_toArray, List.getElem_cons_zero, List.getElem_cons_succ, List.setIfInBounds_toArray, List.set_cons_zero, List.set_cons_succ]
          refine wpAnyH_take (i := 3) (v := .int .u8 (Y : Int)) rfl (by kernel_rfl) (by kernel_rfl) (by kernel_rfl) (fun _ _ _ h => h) (Yields.yieldsIf (Or.inl ⟨by rfl, fun w9 => by have h9 := hNi w9; go_simp⟩)) OD.out.b0 ?_
          try simp only [Act.put, List.getElem_toArray, List.getElem_cons_zero, List.getElem_cons_succ, List.setIfInBounds_toArray, List.set_cons_zero, List.set_cons_succ]
          refine wpAnyH_all (rs := [4, 8]) (by kernel_rfl) (by simp) (AllH.cons rfl (fun K hK => ?_) (AllH.cons rfl (fun K hK => ?_) AllH.nil))
          · skip
            go_simp
            refine (GA.out _ OD.out).mono ?_
            rintro e w4 ⟨ga, gc, gn, hgn, rfl, hgO, hgb⟩
            obtain ⟨ga9, gc9, hv9, hT9⟩ := own_txl hgO (by rw [hgn]; exact hgl)
            obtain ⟨ea, ec⟩ : ga = ga9 ∧ gc = gc9 := by simpa using hv9
            subst ea ec
            have O4 := Hid.mk' (OD.out.keep hgb)
            have T4 := Hid.mk' hT9
            clear hgn hgO hgb hv9 hT9
            dsimp only
            refine hK _ _ ⟨O4.out.b0, ?_⟩
            clear hK K
            try simp only [Act.put, List.getElem_toArray, List.getElem_cons_zero, List.getElem_cons_succ, List.setIfInBounds_toArray, List.set_cons_zero, List.set_cons_succ]
            refine wpAnyH_take (i := 5) (v := .tuple #[.agg #[.bool gs, .bool gl, .slice ga gn gc], .int .i64 gE1]) rfl (by kernel_rfl) (by kernel_rfl) (by kernel_rfl) (fun _ _ _ h => h) (Yields.yieldsIf (Or.inl ⟨by rfl, fun w => by go_simp⟩)) O4.out.b0 ?_
            try simp only [Act.put, List.getElem_toArray, List.getElem_cons_zero, List.getElem_cons_succ, List.setIfInBounds_toArray, List.set_cons_zero, List.set_cons_succ]
            refine wpAnyH_take (i := 6) (v := .agg #[.bool gs, .bool gl, .slice ga gn gc]) rfl (by kernel_rfl) (by kernel_rfl) (by kernel_rfl) (fun _ _ _ h => h) (Yields.yieldsIf (Or.inl ⟨by rfl, fun w => by go_simp⟩)) O4.out.b0 ?_
            try simp only [Act.put, List.getElem_toArray, List.getElem_cons_zero, List.getElem_cons_succ, List.setIfInBounds_toArray, List.set_cons_zero, List.set_cons_succ]
            refine wpAnyH_take (i := 7) (v := .int .i64 gE1) rfl (by kernel_rfl) (by kernel_rfl) (by kernel_rfl) (fun _ _ _ h => h) (Yields.yieldsIf (Or.inl ⟨by rfl, fun w => by go_simp⟩)) O4.out.b0 ?_
            try simp only [Act.put, List.getElem_toArray, List.getElem_cons_zero, List.getElem_cons_succ, List.setIfInBounds_toArray, List.set_cons_zero, List.set_cons_succ]
            refine wpAnyH_all (rs := [8]) (by kernel_rfl) (by simp) (AllH.cons rfl (fun K hK => ?_) AllH.nil)
            go_simp
            have hgb := bAlloc (Below.refl _ w4) (.cells #[.bool false, .bool false, .slice none 0 0] 24)
            have O5 := Hid.mk' (O4.out.keep hgb)
            have A5 : Hid (Blk (w4.alloc (.cells #[.bool false, .bool false, .slice none 0 0] 24)) w4.heap.size 24 #[.bool false, .bool false, .slice none 0 0]) := Blk.new _ _ _
            have T5 := Hid.mk' (T4.out.keep hgb)
            clear hgb
            obtain ⟨q5, hq5⟩ : ∃ q, q = w4.heap.size := ⟨_, rfl⟩
            have HQq5 : Hid (w.heap.size ≤ q5) := by have h1 := O4.out.bel.size; unfold Hid; omega
            have HBq5 : Hid (w.heap.size ≠ q5 ∧ w.heap.size + 1 ≠ q5 ∧ p ≠ q5) := by have h1 := O4.out.b0.lt; have h2 := O4.out.b1.lt; have h3 := O4.out.b2.lt; unfold Hid; omega
            rw [← hq5] at A5 ⊢
            generalize w4.alloc (.cells #[.bool false, .bool false, .slice none 0 0] 24) = w5 at *
            clear hq5
            refine hK _ _ ⟨O5.out.b0, ?_⟩
            clear hK K
            try simp only [Act.put, List.getElem_toArray, List.getElem_cons_zero, List.getElem_cons_succ, List.setIfInBounds_toArray, List.set_cons_zero, List.set_cons_succ]
            refine wpAnyH_all (rs := [9]) (by kernel_rfl) (by simp) (AllH.cons rfl (fun K hK => ?_) AllH.nil)
            have s0 : w5.cell? ⟨q5, 0, none⟩ = some (.bool false) := A5.out.cell rfl
            have s1 : w5.cell? ⟨q5, 1, none⟩ = some (.bool false) := A5.out.cell rfl
            have s2 : w5.cell? ⟨q5, 2, none⟩ = some (.slice none 0 0) := A5.out.cell rfl
            have fz := A5.out.frozen
            have G6 : Hid (w5.grownBy (((w5.setCell ⟨q5, 0, none⟩ (.bool gs)).setCell ⟨q5, 1, none⟩ (.bool gl)).setCell ⟨q5, 2, none⟩ (.slice ga gn gc)) (some q5)) := ((grown_set _ _ _ _).trans (grown_set _ _ _ _)).trans (grown_set _ _ _ _)
            have A6 : Hid (Blk (((w5.setCell ⟨q5, 0, none⟩ (.bool gs)).setCell ⟨q5, 1, none⟩ (.bool gl)).setCell ⟨q5, 2, none⟩ (.slice ga gn gc)) q5 24 #[.bool gs, .bool gl, .slice ga gn gc]) := ((A5.out.set (j := 0) (.bool gs)).set (j := 1) (.bool gl)).set (j := 2) (.slice ga gn gc)
            have T6 := Hid.mk' (T5.out.off_bk (blk_one A5.out) G6.out)
            have O6 := Hid.mk' (O5.out.off A5.out G6.out HBq5.out HQq5.out)
            go_simp
            clear G6 s0 s1 s2 fz
            generalize (((w5.setCell ⟨q5, 0, none⟩ (.bool gs)).setCell ⟨q5, 1, none⟩ (.bool gl)).setCell ⟨q5, 2, none⟩ (.slice ga gn gc)) = w6 at *
            refine hK _ _ ⟨O6.out.b0, ?_⟩
            clear hK K
            try simp only [Act.put, List.getElem_toArray, List.getElem_cons_zero, List.getElem_cons_succ, List.setIfInBounds_toArray, List.set_cons_zero, List.set_cons_succ]
            refine wpAnyH_take (i := 10) (v := .int .i64 gE1) rfl (by kernel_rfl) (by kernel_rfl) (by kernel_rfl) (fun _ _ _ h => h) (Yields.yieldsIf (Or.inl ⟨by rfl, fun w => by go_simp⟩)) O6.out.b0 ?_
            try simp only [Act.put, List.getElem_toArray, List.getElem_cons_zero, List.getElem_cons_succ, List.setIfInBounds_toArray, List.set_cons_zero, List.set_cons_succ]
            refine wpAnyH_done (by kernel_rfl) ?_ _
            go_wp2_with fail
            go_meet
            exact ⟨rfl, _, _, _, _, rfl, A6.out, T6.out, O6.out⟩
          · skip
            go_simp
            have hgb := bAlloc (Below.refl _ V3) (.cells #[.bool false, .bool false, .slice none 0 0] 24)
            have O4 := Hid.mk' (OD.out.keep hgb)
            have A4 : Hid (Blk (V3.alloc (.cells #[.bool false, .bool false, .slice none 0 0] 24)) V3.heap.size 24 #[.bool false, .bool false, .slice none 0 0]) := Blk.new _ _ _
            clear hgb
            obtain ⟨q4, hq4⟩ : ∃ q, q = V3.heap.size := ⟨_, rfl⟩
            have HQq4 : Hid (w.heap.size ≤ q4) := by have h1 := OD.out.bel.size; unfold Hid; omega
            have HBq4 : Hid (w.heap.size ≠ q4 ∧ w.heap.size + 1 ≠ q4 ∧ p ≠ q4) := by have h1 := OD.out.b0.lt; have h2 := OD.out.b1.lt; have h3 := OD.out.b2.lt; unfold Hid; omega
            rw [← hq4] at A4 ⊢
            generalize V3.alloc (.cells #[.bool false, .bool false, .slice none 0 0] 24) = w4 at *
            clear hq4
            refine hK _ _ ⟨O4.out.b0, ?_⟩
            clear hK K
            try simp only [Act.put, List.getElem_toArray, List.getElem_cons_zero, List.getElem_cons_succ, List.setIfInBounds_toArray, List.set_cons_zero, List.set_cons_succ]
            refine wpAnyH_all (rs := [4]) (by kernel_rfl) (by simp) (AllH.cons rfl (fun K hK => ?_) AllH.nil)
            go_simp
            refine (GA.out _ O4.out).mono ?_
            rintro e w5 ⟨ga, gc, gn, hgn, rfl, hgO, hgb⟩
            obtain ⟨ga9, gc9, hv9, hT9⟩ := own_txl hgO (by rw [hgn]; exact hgl)
            obtain ⟨ea, ec⟩ : ga = ga9 ∧ gc = gc9 := by simpa using hv9
            subst ea ec
            have O5 := Hid.mk' (O4.out.keep hgb)
            have T5 := Hid.mk' hT9
            have A5 := Hid.mk' (A4.out.keep hgb)
            clear hgn hgO hgb hv9 hT9
            dsimp only
            refine hK _ _ ⟨O5.out.b0, ?_⟩
            clear hK K
            try simp only [Act.put, List.getElem_toArray, List.getElem_cons_zero, List.getElem_cons_succ, List.setIfInBounds_toArray, List.set_cons_zero, List.set_cons_succ]
            refine wpAnyH_take (i := 5) (v := .tuple #[.agg #[.bool gs, .bool gl, .slice ga gn gc], .int .i64 gE1]) rfl (by kernel_rfl) (by kernel_rfl) (by kernel_rfl) (fun _ _ _ h => h) (Yields.yieldsIf (Or.inl ⟨by rfl, fun w => by go_simp⟩)) O5.out.b0 ?_
            try simp only [Act.put, List.getElem_toArray, List.getElem_cons_zero, List.getElem_cons_succ, List.setIfInBounds_toArray, List.set_cons_zero, List.set_cons_succ]
            refine wpAnyH_take (i := 6) (v := .agg #[.bool gs, .bool gl, .slice ga gn gc]) rfl (by kernel_rfl) (by kernel_rfl) (by kernel_rfl) (fun _ _ _ h => h) (Yields.yieldsIf (Or.inl ⟨by rfl, fun w => by go_simp⟩)) O5.out.b0 ?_
            try simp only [Act.put, List.getElem_toArray, List.getElem_cons_zero, List.getElem_cons_succ, List.setIfInBounds_toArray, List.set_cons_zero, List.set_cons_succ]
            refine wpAnyH_take (i := 7) (v := .int .i64 gE1) rfl (by kernel_rfl) (by kernel_rfl) (by kernel_rfl) (fun _ _ _ h => h) (Yields.yieldsIf (Or.inl ⟨by rfl, fun w => by go_simp⟩)) O5.out.b0 ?_
            try simp only [Act.put, List.getElem_toArray, List.getElem_cons_zero, List.getElem_cons_succ, List.setIfInBounds_toArray, List.set_cons_zero, List.set_cons_succ]
            refine wpAnyH_all (rs := [9]) (by kernel_rfl) (by simp) (AllH.cons rfl (fun K hK => ?_) AllH.nil)
            have s0 : w5.cell? ⟨q4, 0, none⟩ = some (.bool false) := A5.out.cell rfl
            have s1 : w5.cell? ⟨q4, 1, none⟩ = some (.bool false) := A5.out.cell rfl
            have s2 : w5.cell? ⟨q4, 2, none⟩ = some (.slice none 0 0) := A5.out.cell rfl
            have fz := A5.out.frozen
            have G6 : Hid (w5.grownBy (((w5.setCell ⟨q4, 0, none⟩ (.bool gs)).setCell ⟨q4, 1, none⟩ (.bool gl)).setCell ⟨q4, 2, none⟩ (.slice ga gn gc)) (some q4)) := ((grown_set _ _ _ _).trans (grown_set _ _ _ _)).trans (grown_set _ _ _ _)
            have A6 : Hid (Blk (((w5.setCell ⟨q4, 0, none⟩ (.bool gs)).setCell ⟨q4, 1, none⟩ (.bool gl)).setCell ⟨q4, 2, none⟩ (.slice ga gn gc)) q4 24 #[.bool gs, .bool gl, .slice ga gn gc]) := ((A5.out.set (j := 0) (.bool gs)).set (j := 1) (.bool gl)).set (j := 2) (.slice ga gn gc)
            have T6 := Hid.mk' (T5.out.off_bk (blk_one A5.out) G6.out)
            have O6 := Hid.mk' (O5.out.off A5.out G6.out HBq4.out HQq4.out)
            go_simp
            clear G6 s0 s1 s2 fz
            generalize (((w5.setCell ⟨q4, 0, none⟩ (.bool gs)).setCell ⟨q4, 1, none⟩ (.bool gl)).setCell ⟨q4, 2, none⟩ (.slice ga gn gc)) = w6 at *
            refine hK _ _ ⟨O6.out.b0, ?_⟩
            clear hK K
            try simp only [Act.put, List.getElem_toArray, List.getElem_cons_zero, List.getElem_cons_succ, List.setIfInBounds_toArray, List.set_cons_zero, List.set_cons_succ]
            refine wpAnyH_take (i := 10) (v := .int .i64 gE1) rfl (by kernel_rfl) (by kernel_rfl) (by kernel_rfl) (fun _ _ _ h => h) (Yields.yieldsIf (Or.inl ⟨by rfl, fun w => by go_simp⟩)) O6.out.b0 ?_
            try simp only [Act.put, List.getElem_toArray, List.getElem_cons_zero, List.getElem_cons_succ, List.setIfInBounds_toArray, List.set_cons_zero, List.set_cons_succ]
            refine wpAnyH_done (by kernel_rfl) ?_ _
            go_wp2_with fail
            go_meet
            exact ⟨rfl, _, _, _, _, rfl, A6.out, T6.out, O6.out⟩
        case rest =>
        obtain ⟨rfl, qa, aa, na, ca, rfl, XA, UA, OK⟩ := hcut
        clear OJ
        go_upto_region 20 with fail
        go_cut [17, 18] from 154 to 161 (fun x17 x18 wx => x18 = .int .i64 gE1 ∧ ∃ qb ga gn gc, x17 = .pointer (some ⟨qb, 0, none⟩) ∧ Hid (Blk wx qb 24 #[.bool gs, .bool gl, .slice ga gn gc]) ∧ Hid (Tx wx ga gn gc gt) ∧ Hid (Blk wx qa 24 #[.bool gs, .bool gl, .slice aa na ca]) ∧ Hid (Tx wx aa na ca gt) ∧ Hid (Os w L P fc p N1 P1 wx))
        case first =>
          have OD := Hid.mk' (OK.out.keep (Below.refl _ _).drew)
          have XD : Hid (Blk wc.drew qa 24 #[.bool gs, .bool gl, .slice aa na ca]) := XA.out
          have UD := Hid.mk' (UA.out.keep (Below.refl _ wc).drew)
          refine wp_region_held (S := fun w' => Blk w' p 28 (bk N1)) (by kernel_rfl) ?_
          change wpAnyH _ _ _ _ _ _ _ _ (World.drew _)
          generalize wc.drew = V3 at *
          refine wpAnyH_take (i := 0) (v := .agg (bk N1)) rfl (by kernel_rfl) (by kernel_rfl) (by kernel_rfl) (fun _ _ _ h => h) (yi28 rfl (.tmp 5) rfl rfl hl1 (fun _ h => h)) OD.out.b2 ?_
          try simp only [Act.put, List.getElem_toArray, List.getElem_cons_zero, List.getElem_cons_succ, List.setIfInBounds_toArray, List.set_cons_zero, List.set_cons_succ]
          refine wpAnyH_take (i := 1) (v := .string NS) rfl (by kernel_rfl) (by kernel_rfl) (by kernel_rfl) (fun _ _ _ h => h) (Yields.yieldsIf (Or.inl ⟨by rfl, fun w => by go_simp⟩)) OD.out.b2 ?_
          try simp only [Act.put, List.getElem_toArray, List.getElem_cons_zero, List.getElem_cons_succ, List.setIfInBounds_toArray, List.set_cons_zero, List.set_cons_succ]
          refine wpAnyH_take (i := 2) (v := .int .i64 (i : Int)) rfl (by kernel_rfl) (by kernel_rfl) (by kernel_rfl) (fun _ _ _ h => h) (Yields.yieldsIf (Or.inl ⟨by rfl, fun w => by go_simp⟩)) OD.out.b2 ?_
          try simp only [Act.put, List.getElem_toArray, List.getElem_cons_zero, List.getElem_cons_succ, List.setIfInBounds_toArray, List.set_cons_zero, List.set_cons_succ]
          refine wpAnyH_take (i := 3) (v := .int .u8 (Y : Int)) rfl (by kernel_rfl) (by kernel_rfl) (by kernel_rfl) (fun _ _ _ h => h) (Yields.yieldsIf (Or.inl ⟨by rfl, fun w9 => by have h9 := hNi w9; go_simp⟩)) OD.out.b2 ?_
          try simp only [Act.put, List.getElem_toArray, List.getElem_cons_zero, List.getElem_cons_succ, List.setIfInBounds_toArray, List.set_cons_zero, List.set_cons_succ]
          refine wpAnyH_all (rs := [4, 8]) (by kernel_rfl) (by simp) (AllH.cons rfl (fun K hK => ?_) (AllH.cons rfl (fun K hK => ?_) AllH.nil))
          · skip
            go_simp
            refine (GB.out _ OD.out).mono ?_
            rintro e w4 ⟨ga, gc, gn, hgn, rfl, hgO, hgb⟩
            obtain ⟨ga9, gc9, hv9, hT9⟩ := own_txl hgO (by rw [hgn]; exact hgl)
            obtain ⟨ea, ec⟩ : ga = ga9 ∧ gc = gc9 := by simpa using hv9
            subst ea ec
            have O4 := Hid.mk' (OD.out.keep hgb)
            have T4 := Hid.mk' hT9
            have X4 := Hid.mk' (XD.out.keep hgb)
            have U4 := Hid.mk' (UD.out.keep hgb)
            clear hgn hgO hgb hv9 hT9
            dsimp only
            refine hK _ _ ⟨O4.out.b2, ?_⟩
            clear hK K
            try simp only [Act.put, List.getElem_toArray, List.getElem_cons_zero, List.getElem_cons_succ, List.setIfInBounds_toArray, List.set_cons_zero, List.set_cons_succ]
            refine wpAnyH_take (i := 5) (v := .tuple #[.agg #[.bool gs, .bool gl, .slice ga gn gc], .int .i64 gE1]) rfl (by kernel_rfl) (by kernel_rfl) (by kernel_rfl) (fun _ _ _ h => h) (Yields.yieldsIf (Or.inl ⟨by rfl, fun w => by go_simp⟩)) O4.out.b2 ?_
            try simp only [Act.put, List.getElem_toArray, List.getElem_cons_zero, List.getElem_cons_succ, List.setIfInBounds_toArray, List.set_cons_zero, List.set_cons_succ]
            refine wpAnyH_take (i := 6) (v := .agg #[.bool gs, .bool gl, .slice ga gn gc]) rfl (by kernel_rfl) (by kernel_rfl) (by kernel_rfl) (fun _ _ _ h => h) (Yields.yieldsIf (Or.inl ⟨by rfl, fun w => by go_simp⟩)) O4.out.b2 ?_
            try simp only [Act.put, List.getElem_toArray, List.getElem_cons_zero, List.getElem_cons_succ, List.setIfInBounds_toArray, List.set_cons_zero, List.set_cons_succ]
            refine wpAnyH_take (i := 7) (v := .int .i64 gE1) rfl (by kernel_rfl) (by kernel_rfl) (by kernel_rfl) (fun _ _ _ h => h) (Yields.yieldsIf (Or.inl ⟨by rfl, fun w => by go_simp⟩)) O4.out.b2 ?_
            try simp only [Act.put, List.getElem_toArray, List.getElem_cons_zero, List.getElem_cons_succ, List.setIfInBounds_toArray, List.set_cons_zero, List.set_cons_succ]
            refine wpAnyH_all (rs := [8]) (by kernel_rfl) (by simp) (AllH.cons rfl (fun K hK => ?_) AllH.nil)
            go_simp
            have hgb := bAlloc (Below.refl _ w4) (.cells #[.bool false, .bool false, .slice none 0 0] 24)
            have O5 := Hid.mk' (O4.out.keep hgb)
            have A5 : Hid (Blk (w4.alloc (.cells #[.bool false, .bool false, .slice none 0 0] 24)) w4.heap.size 24 #[.bool false, .bool false, .slice none 0 0]) := Blk.new _ _ _
            have T5 := Hid.mk' (T4.out.keep hgb)
            have X5 := Hid.mk' (X4.out.keep hgb)
            have U5 := Hid.mk' (U4.out.keep hgb)
            clear hgb
            obtain ⟨q5, hq5⟩ : ∃ q, q = w4.heap.size := ⟨_, rfl⟩
            have HQq5 : Hid (w.heap.size ≤ q5) := by have h1 := O4.out.bel.size; unfold Hid; omega
            have HBq5 : Hid (w.heap.size ≠ q5 ∧ w.heap.size + 1 ≠ q5 ∧ p ≠ q5) := by have h1 := O4.out.b0.lt; have h2 := O4.out.b1.lt; have h3 := O4.out.b2.lt; unfold Hid; omega
            have HKXq5 : Hid (qa ≠ q5) := by have h1 := X4.out.lt; unfold Hid; omega
            rw [← hq5] at A5 ⊢
            generalize w4.alloc (.cells #[.bool false, .bool false, .slice none 0 0] 24) = w5 at *
            clear hq5
            refine hK _ _ ⟨O5.out.b2, ?_⟩
            clear hK K
            try simp only [Act.put, List.getElem_toArray, List.getElem_cons_zero, List.getElem_cons_succ, List.setIfInBounds_toArray, List.set_cons_zero, List.set_cons_succ]
            refine wpAnyH_all (rs := [9]) (by kernel_rfl) (by simp) (AllH.cons rfl (fun K hK => ?_) AllH.nil)
            have s0 : w5.cell? ⟨q5, 0, none⟩ = some (.bool false) := A5.out.cell rfl
            have s1 : w5.cell? ⟨q5, 1, none⟩ = some (.bool false) := A5.out.cell rfl
            have s2 : w5.cell? ⟨q5, 2, none⟩ = some (.slice none 0 0) := A5.out.cell rfl
            have fz := A5.out.frozen
            have G6 : Hid (w5.grownBy (((w5.setCell ⟨q5, 0, none⟩ (.bool gs)).setCell ⟨q5, 1, none⟩ (.bool gl)).setCell ⟨q5, 2, none⟩ (.slice ga gn gc)) (some q5)) := ((grown_set _ _ _ _).trans (grown_set _ _ _ _)).trans (grown_set _ _ _ _)
            have A6 : Hid (Blk (((w5.setCell ⟨q5, 0, none⟩ (.bool gs)).setCell ⟨q5, 1, none⟩ (.bool gl)).setCell ⟨q5, 2, none⟩ (.slice ga gn gc)) q5 24 #[.bool gs, .bool gl, .slice ga gn gc]) := ((A5.out.set (j := 0) (.bool gs)).set (j := 1) (.bool gl)).set (j := 2) (.slice ga gn gc)
            have T6 := Hid.mk' (T5.out.off_bk (blk_one A5.out) G6.out)
            have O6 := Hid.mk' (O5.out.off A5.out G6.out HBq5.out HQq5.out)
            have X6 := Hid.mk' (X5.out.grown G6.out (by have := HKXq5.out; simpa using this))
            have U6 := Hid.mk' (U5.out.off_bk (blk_one A5.out) G6.out)
            go_simp
            clear G6 s0 s1 s2 fz
            generalize (((w5.setCell ⟨q5, 0, none⟩ (.bool gs)).setCell ⟨q5, 1, none⟩ (.bool gl)).setCell ⟨q5, 2, none⟩ (.slice ga gn gc)) = w6 at *
            refine hK _ _ ⟨O6.out.b2, ?_⟩
            clear hK K
            try simp only [Act.put, List.getElem_toArray, List.getElem_cons_zero, List.getElem_cons_succ, List.setIfInBounds_toArray, List.set_cons_zero, List.set_cons_succ]
            refine wpAnyH_take (i := 10) (v := .int .i64 gE1) rfl (by kernel_rfl) (by kernel_rfl) (by kernel_rfl) (fun _ _ _ h => h) (Yields.yieldsIf (Or.inl ⟨by rfl, fun w => by go_simp⟩)) O6.out.b2 ?_
            try simp only [Act.put, List.getElem_toArray, List.getElem_cons_zero, List.getElem_cons_succ, List.setIfInBounds_toArray, List.set_cons_zero, List.set_cons_succ]
            refine wpAnyH_done (by kernel_rfl) ?_ _
            go_wp2_with fail
            go_meet
            exact ⟨rfl, _, _, _, _, rfl, A6.out, T6.out, X6.out, U6.out, O6.out⟩
          · skip
            go_simp
            have hgb := bAlloc (Below.refl _ V3) (.cells #[.bool false, .bool false, .slice none 0 0] 24)
            have O4 := Hid.mk' (OD.out.keep hgb)
            have A4 : Hid (Blk (V3.alloc (.cells #[.bool false, .bool false, .slice none 0 0] 24)) V3.heap.size 24 #[.bool false, .bool false, .slice none 0 0]) := Blk.new _ _ _
            have X4 := Hid.mk' (XD.out.keep hgb)
            have U4 := Hid.mk' (UD.out.keep hgb)
            clear hgb
            obtain ⟨q4, hq4⟩ : ∃ q, q = V3.heap.size := ⟨_, rfl⟩
            have HQq4 : Hid (w.heap.size ≤ q4) := by have h1 := OD.out.bel.size; unfold Hid; omega
            have HBq4 : Hid (w.heap.size ≠ q4 ∧ w.heap.size + 1 ≠ q4 ∧ p ≠ q4) := by have h1 := OD.out.b0.lt; have h2 := OD.out.b1.lt; have h3 := OD.out.b2.lt; unfold Hid; omega
            have HKXq4 : Hid (qa ≠ q4) := by have h1 := XD.out.lt; unfold Hid; omega
            rw [← hq4] at A4 ⊢
            generalize V3.alloc (.cells #[.bool false, .bool false, .slice none 0 0] 24) = w4 at *
            clear hq4
            refine hK _ _ ⟨O4.out.b2, ?_⟩
            clear hK K
            try simp only [Act.put, List.getElem_toArray, List.getElem_cons_zero, List.getElem_cons_succ, List.setIfInBounds_toArray, List.set_cons_zero, List.set_cons_succ]
            refine wpAnyH_all (rs := [4]) (by kernel_rfl) (by simp) (AllH.cons rfl (fun K hK => ?_) AllH.nil)
            go_simp
            refine (GB.out _ O4.out).mono ?_
            rintro e w5 ⟨ga, gc, gn, hgn, rfl, hgO, hgb⟩
            obtain ⟨ga9, gc9, hv9, hT9⟩ := own_txl hgO (by rw [hgn]; exact hgl)
            obtain ⟨ea, ec⟩ : ga = ga9 ∧ gc = gc9 := by simpa using hv9
            subst ea ec
            have O5 := Hid.mk' (O4.out.keep hgb)
            have T5 := Hid.mk' hT9
            have X5 := Hid.mk' (X4.out.keep hgb)
            have U5 := Hid.mk' (U4.out.keep hgb)
            have A5 := Hid.mk' (A4.out.keep hgb)
            clear hgn hgO hgb hv9 hT9
            dsimp only
            refine hK _ _ ⟨O5.out.b2, ?_⟩
            clear hK K
            try simp only [Act.put, List.getElem_toArray, List.getElem_cons_zero, List.getElem_cons_succ, List.setIfInBounds_toArray, List.set_cons_zero, List.set_cons_succ]
            refine wpAnyH_take (i := 5) (v := .tuple #[.agg #[.bool gs, .bool gl, .slice ga gn gc], .int .i64 gE1]) rfl (by kernel_rfl) (by kernel_rfl) (by kernel_rfl) (fun _ _ _ h => h) (Yields.yieldsIf (Or.inl ⟨by rfl, fun w => by go_simp⟩)) O5.out.b2 ?_
            try simp only [Act.put, List.getElem_toArray, List.getElem_cons_zero, List.getElem_cons_succ, List.setIfInBounds_toArray, List.set_cons_zero, List.set_cons_succ]
            refine wpAnyH_take (i := 6) (v := .agg #[.bool gs, .bool gl, .slice ga gn gc]) rfl (by kernel_rfl) (by kernel_rfl) (by kernel_rfl) (fun _ _ _ h => h) (Yields.yieldsIf (Or.inl ⟨by rfl, fun w => by go_simp⟩)) O5.out.b2 ?_
            try simp only [Act.put, List.getElem_toArray, List.getElem_cons_zero, List.getElem_cons_succ, List.setIfInBounds_toArray, List.set_cons_zero, List.set_cons_succ]
            refine wpAnyH_take (i := 7) (v := .int .i64 gE1) rfl (by kernel_rfl) (by kernel_rfl) (by kernel_rfl) (fun _ _ _ h => h) (Yields.yieldsIf (Or.inl ⟨by rfl, fun w => by go_simp⟩)) O5.out.b2 ?_
            try simp only [Act.put, List.getElem_toArray, List.getElem_cons_zero, List.getElem_cons_succ, List.setIfInBounds_toArray, List.set_cons_zero, List.set_cons_succ]
            refine wpAnyH_all (rs := [9]) (by kernel_rfl) (by simp) (AllH.cons rfl (fun K hK => ?_) AllH.nil)
            have s0 : w5.cell? ⟨q4, 0, none⟩ = some (.bool false) := A5.out.cell rfl
            have s1 : w5.cell? ⟨q4, 1, none⟩ = some (.bool false) := A5.out.cell rfl
            have s2 : w5.cell? ⟨q4, 2, none⟩ = some (.slice none 0 0) := A5.out.cell rfl
            have fz := A5.out.frozen
            have G6 : Hid (w5.grownBy (((w5.setCell ⟨q4, 0, none⟩ (.bool gs)).setCell ⟨q4, 1, none⟩ (.bool gl)).setCell ⟨q4, 2, none⟩ (.slice ga gn gc)) (some q4)) := ((grown_set _ _ _ _).trans (grown_set _ _ _ _)).trans (grown_set _ _ _ _)
            have A6 : Hid (Blk (((w5.setCell ⟨q4, 0, none⟩ (.bool gs)).setCell ⟨q4, 1, none⟩ (.bool gl)).setCell ⟨q4, 2, none⟩ (.slice ga gn gc)) q4 24 #[.bool gs, .bool gl, .slice ga gn gc]) := ((A5.out.set (j := 0) (.bool gs)).set (j := 1) (.bool gl)).set (j := 2) (.slice ga gn gc)
            have T6 := Hid.mk' (T5.out.off_bk (blk_one A5.out) G6.out)
            have O6 := Hid.mk' (O5.out.off A5.out G6.out HBq4.out HQq4.out)
            have X6 := Hid.mk' (X5.out.grown G6.out (by have := HKXq4.out; simpa using this))
            have U6 := Hid.mk' (U5.out.off_bk (blk_one A5.out) G6.out)
            go_simp
            clear G6 s0 s1 s2 fz
            generalize (((w5.setCell ⟨q4, 0, none⟩ (.bool gs)).setCell ⟨q4, 1, none⟩ (.bool gl)).setCell ⟨q4, 2, none⟩ (.slice ga gn gc)) = w6 at *
            refine hK _ _ ⟨O6.out.b2, ?_⟩
            clear hK K
            try simp only [Act.put, List.getElem_toArray, List.getElem_cons_zero, List.getElem_cons_succ, List.setIfInBounds_toArray, List.set_cons_zero, List.set_cons_succ]
            refine wpAnyH_take (i := 10) (v := .int .i64 gE1) rfl (by kernel_rfl) (by kernel_rfl) (by kernel_rfl) (fun _ _ _ h => h) (Yields.yieldsIf (Or.inl ⟨by rfl, fun w => by go_simp⟩)) O6.out.b2 ?_
            try simp only [Act.put, List.getElem_toArray, List.getElem_cons_zero, List.getElem_cons_succ, List.setIfInBounds_toArray, List.set_cons_zero, List.set_cons_succ]
            refine wpAnyH_done (by kernel_rfl) ?_ _
            go_wp2_with fail
            go_meet
            exact ⟨rfl, _, _, _, _, rfl, A6.out, T6.out, X6.out, U6.out, O6.out⟩
        case rest =>
        obtain ⟨rfl, qb, ab, nb, cb, rfl, XB, UB, XC, UC, OL⟩ := hcut
        clear OK XA UA
        have x0 : wc.cell? ⟨qa, 0, none⟩ = some (.bool gs) := XC.out.cell rfl
        have x1 : wc.cell? ⟨qa, 1, none⟩ = some (.bool gl) := XC.out.cell rfl
        have x2 : wc.cell? ⟨qa, 2, none⟩ = some (.slice aa na ca) := XC.out.cell rfl
        have v0 : wc.cell? ⟨qb, 0, none⟩ = some (.bool gs) := XB.out.cell rfl
        have v1 : wc.cell? ⟨qb, 1, none⟩ = some (.bool gl) := XB.out.cell rfl
        have v2 : wc.cell? ⟨qb, 2, none⟩ = some (.slice ab nb cb) := XB.out.cell rfl
        have CS := Hid.mk' (same_yes gs gl aa ab na nb ca cb gt wc UC.out UB.out)
        go_wp2_with fail
        refine CS.out.mono ?_
        rintro e wz ⟨rfl, hbz2⟩
        have OM := Hid.mk' (OL.out.keep hbz2)
        clear hbz2
        go_wp2
        go_roundg (gk - 1)
        case rel => exact ⟨i + 1, by go_num, by omega, OM.out⟩
        case measure => omega
    · have hi' : ¬ (i : Int) < 36 := by omega
      have BLZ := Hid.mk' OI.out.bel
      go_wp2
      go_ret
      exact ⟨rfl, BLZ.out⟩
theorem bankOthers_walk (L : List Rg) (P : List Ct) (x : Nat) (how : Int) (r : Rg) (c : Ct) (w : World) (hx : x < 256) (R0 : Hid (Rdb w L P)) (R1 : Hid (Rd w r c)) :
    Calls Try.prog 5 #[.agg (bk L), .agg #[.int .u8 (x : Int), .int .i64 how, .bool r.s, .bool r.l, .slice r.a r.n r.c]] w fun e w' => e = .returned (.bool true) ∧ Below w.heap.size w w' := by
  by_cases h : (putP P x how c).2 = 0
  · exact others_yes L P x how r c w hx R0 R1 h
  · exact others_no L P x how r c w hx R0 R1 h
end Go.Proofs.Ytienamngmalkaaa
