/- The walk of quoinlaw07.StepRows: it answers true for every text and every question. -/
import Derived.Test.YtbkhbnmihnomaaaTimes
namespace Go.Proofs.Ytbkhbnmihnomaaa
open Go.RowKit

def kJ : ByteArray := { data := #[106] }
def kK : ByteArray := { data := #[107] }
def kG : ByteArray := { data := #[71] }
def kGG : ByteArray := { data := #[103, 103] }
theorem kn_J : kn { data := #[106] } = 5 := by decide +kernel
theorem kn_K : kn { data := #[107] } = 6 := by decide +kernel
theorem kn_G : kn { data := #[71] } = 15 := by decide +kernel
theorem kn_GG : kn { data := #[103, 103] } = 16 := by decide +kernel
theorem opt_yes {b : Bool} {x : Nat} (h : b = true) : opt b x = some x := by rw [h]; rfl
theorem opt_no {b : Bool} {x : Nat} (h : b = false) : opt b x = none := by rw [h]; rfl
theorem lnFirst_yes {l : List UInt8} {L : Nat} (h : L ≤ nl l) : ∃ F, lnFirst l (L : Int) = some F := ⟨_, opt_yes (decide_eq_true (by omega))⟩
theorem lnFirst_none {l : List UInt8} {L : Nat} (h : nl l < L) : lnFirst l (L : Int) = none := opt_no (decide_eq_false (by omega))
theorem tgtG (l : List UInt8) (p : Nat) (want : Int) (N0 : Nat) : tgt l p want (N0 + 1) false 15 = lnFirst l (N0 : Int) := by
  show lnFirst l (((N0 + 1 : Nat) : Int) - 1) = _
  congr 1; omega
theorem tgtGG (l : List UInt8) (p : Nat) (want : Int) (N0 : Nat) (z : Bool) : tgt l p want (N0 + 1) z 16 = lnFirst l (N0 : Int) := by
  show lnFirst l (((N0 + 1 : Nat) : Int) - 1) = _
  congr 1; omega
theorem at_home {ao : Option Addr} {n c k : Nat} {l : List UInt8} {w : World} {C : Int} (hk : k ≤ n) (h1 : -1 ≤ C) (h2 : C ≤ 9223372036854775807) (HT : Hid (Tx w ao n c l)) :
    Calls Try.prog 18 #[.slice ao n c, .int .i64 (nl (l.take k)), .int .i64 C] w fun e w' => e = .returned (.tuple #[.int .i64 (pc (bg l k) (en l (bg l k)) C), .int .i64 0]) ∧ w' = w := by
  have hl := HT.out.len
  have hb := HT.out.big
  have g1 := nl_take_le l k
  have g2 := nl_le l
  have := at_any ao n c (nl (l.take k) : Nat) C l w (by omega) h2 HT
  have e : pr (aAt l (nl (l.take k) : Nat) C) = .returned (.tuple #[.int .i64 (pc (bg l k) (en l (bg l k)) C), .int .i64 0]) := by
    unfold pr aAt ans
    rw [ln_at, decide_eq_true h1, Int.toNat_natCast, sp_of l k (by omega)]; rfl
  rwa [e] at this

set_option maxRecDepth 4000 in
set_option maxHeartbeats 4000000 in
theorem stepRows_walk (ao : Option Addr) (n c : Nat) (i want cnt : Int) (l : List UInt8) (s : ByteArray) (w : World) (hi1 : -9223372036854775808 ≤ i) (hi2 : i ≤ 9223372036854775807) (hw2 : want ≤ 9223372036854775807) (hc1 : -9223372036854775808 ≤ cnt) (hc2 : cnt ≤ 9223372036854775807) (HT : Hid (Tx w ao n c l)) :
    Calls Try.prog 6 #[.slice ao n c, .agg #[.int .i64 i, .int .i64 want, .int .i64 cnt, .string s]] w fun e w' => e = .returned (.bool true) ∧ Below w.heap.size w w' := by
  have hbig : (n : Int) ≤ 140737488355328 := by have := HT.out.big; omega
  have hn0 : (0 : Int) ≤ (n : Int) := by omega
  have hlen := Hid.mk' HT.out.len
  have hnl : (nl l : Int) ≤ (n : Int) := by have := nl_le l; have := HT.out.len; omega
  have hnl0 : (0 : Int) ≤ (nl l : Int) := by omega
  go_enter Try.func6, Try.ntmps6
  go_wp2_with fail
  refine (awake_any _).mono ?_
  rintro e w1 ⟨rfl, hb1⟩
  have m0 : w1.cell? ⟨w.heap.size, 0, none⟩ = some (.int .i64 i) := by rw [(bcell hb1).1 _ _ (by simp)]; simp [go_sem]
  have m1 : w1.cell? ⟨w.heap.size, 1, none⟩ = some (.int .i64 want) := by rw [(bcell hb1).1 _ _ (by simp)]; simp [go_sem]
  have m2 : w1.cell? ⟨w.heap.size, 2, none⟩ = some (.int .i64 cnt) := by rw [(bcell hb1).1 _ _ (by simp)]; simp [go_sem]
  have B1 := Hid.mk' (bT (bAlloc (Below.refl _ _) _) hb1)
  clear hb1
  go_wp2_with fail
  go_quiet (fail)
  have B2 := Hid.mk' (bT B1.out (below_drewN w1 nq))
  generalize w1.drewN nq = w2 at *
  clear m0 m1 m2 B1
  have T2 := Hid.mk' (HT.out.keep B2.out)
  go_wp2_with fail
  refine (place_any i ((n : Int) + 1) _ hi1 hi2 (by omega) (by omega)).mono ?_
  rintro e w9 ⟨rfl, hw⟩
  have hq := hw.symm
  subst hq
  clear hw
  obtain ⟨p, hp0, hp⟩ : ∃ p0 : Nat, plc i ((n : Int) + 1) = (p0 : Int) ∧ p0 ≤ n := by
    have h1 := plc_lo (i := i) (n := (n : Int) + 1) (by omega)
    have h2 := plc_hi (i := i) (n := (n : Int) + 1) (by omega)
    exact ⟨(plc i ((n : Int) + 1)).toNat, by omega, by omega⟩
  rw [hp0]
  clear hp0
  go_wp2_with fail
  refine (of_is hp T2).mono ?_
  rintro e w3 ⟨rfl, hb3⟩
  have B3 := Hid.mk' (bT B2.out hb3)
  have T3 := Hid.mk' (HT.out.keep B3.out)
  clear hb3 T2 B2
  go_wp2_with fail
  refine (count_any ao n c l _ T3).mono ?_
  rintro e w4 ⟨rfl, hb4⟩
  have B4 := Hid.mk' (bT B3.out hb4)
  have T4 := Hid.mk' (HT.out.keep B4.out)
  clear hb4 T3 B3
  go_wp2_with fail
  refine (place_any cnt ((nl l : Int) + 2) _ hc1 hc2 (by omega) (by omega)).mono ?_
  rintro e w9 ⟨rfl, hw⟩
  have hq := hw.symm
  subst hq
  clear hw
  obtain ⟨N0, hN0, hN1⟩ : ∃ N0 : Nat, plc cnt ((nl l : Int) + 2) = (N0 : Int) ∧ N0 ≤ nl l + 1 := by
    have h1 := plc_lo (i := cnt) (n := (nl l : Int) + 2) (by omega)
    have h2 := plc_hi (i := cnt) (n := (nl l : Int) + 2) (by omega)
    exact ⟨(plc cnt ((nl l : Int) + 2)).toNat, by omega, by omega⟩
  rw [hN0]
  clear hN0
  have hN2 : (N0 : Int) ≤ (nl l : Int) + 1 := by omega
  have hN3 : (0 : Int) ≤ (N0 : Int) := by omega
  have hL1 : (nl (l.take p) : Int) ≤ (nl l : Int) := by have := nl_take_le l p; omega
  have hL0 : (0 : Int) ≤ (nl (l.take p) : Int) := by omega
  have hpl := Hid.mk' (show p ≤ l.length by rw [hlen.out]; exact hp)
  go_wp2_with fail
  obtain ⟨want2, hw0⟩ : ∃ x, x = max want (-1) := ⟨_, rfl⟩
  rw [← hw0]
  have hw3 : -1 ≤ want2 := by omega
  have hw4 : want2 ≤ 9223372036854775807 := by omega
  clear hw0
  refine (at_home hp hw3 hw4 T4).mono ?_
  rintro e w9 ⟨rfl, hw⟩
  have hq := hw.symm
  subst hq
  clear hw
  have hHome : pc (bg l p) (en l (bg l p)) want2 ≤ n := by
    have h := pc_in (s := bg l p) (e := en l (bg l p)) want2 (en_ge _ _)
    have h2 := en_le (t := l) (s := bg l p) (by have := bg_le l p; have := hpl.out; omega)
    have h3 := hlen.out
    have h4 := en_ge l (bg l p)
    unfold InL at h; omega
  have hK6 := Hid.mk' (fun q (hq : lnAt l ((nl (l.take p) : Nat) + ((N0 + 1 : Nat) : Int)) want2 = some q) => (show tgt l q want2 (N0 + 1) false 6 = some (pc (bg l p) (en l (bg l p)) want2) ∧ q ≤ n by
    obtain ⟨a1, a2, a3⟩ := lnAt_in hq
    obtain ⟨b1, b2, b3⟩ := in_line (by omega) a3
    refine ⟨?_, by rw [← hlen.out]; exact b1⟩
    show lnAt l ((nl (l.take q) : Nat) - ((N0 + 1 : Nat) : Int)) want2 = _
    rw [b2, show ((((nl (l.take p) : Nat) + ((N0 + 1 : Nat) : Int)).toNat : Nat) : Int) - ((N0 + 1 : Nat) : Int) = ((nl (l.take p) : Nat) : Int) from by omega, lnAt_yes want2 (nl_take_le l p), sp_of l p hpl.out]))
  generalize pc (bg l p) (en l (bg l p)) want2 = home at *
  by_cases hbig9 : 9999 < (N0 : Int) + 1
  · go_wp2
    go_ret
    exact ⟨rfl, B4.out⟩
  have h99 : (N0 : Int) + 1 ≤ 9999 := by omega
  clear hbig9
  have HMG := Hid.mk' (fun F (hF : lnFirst l (N0 : Int) = some F) => mvE_some (s := { data := #[71] }) (p := p) (want := want2) (cnt := (N0 : Int) + 1) (N := N0 + 1) (q := F) hpl.out hw3 (by omega) (by omega) (by rw [kn_G]; decide) (by omega) (by rw [kn_G, decide_eq_false (by omega), tgtG]; exact hF))
  have HMGn := Hid.mk' (fun (hF : lnFirst l (N0 : Int) = none) => mvE_none (s := { data := #[71] }) (p := p) (want := want2) (cnt := (N0 : Int) + 1) (N := N0 + 1) hpl.out hw3 (by omega) (by omega) (by rw [kn_G]; decide) (by omega) (by rw [kn_G, decide_eq_false (by omega), tgtG]; exact hF))
  have HGG := Hid.mk' (fun (p : Nat) (hp : p ≤ n) F (hF : lnFirst l (N0 : Int) = some F) => mvE_some (s := { data := #[103, 103] }) (p := p) (want := 0) (cnt := (N0 : Int) + 1) (N := N0 + 1) (q := F) (by rw [hlen.out]; exact hp) (by omega) (by omega) (by omega) (by rw [kn_GG]; decide) (by omega) (by rw [kn_GG, tgtGG]; exact hF))
  have HGGn := Hid.mk' (fun (p : Nat) (hp : p ≤ n) (hF : lnFirst l (N0 : Int) = none) => mvE_none (s := { data := #[103, 103] }) (p := p) (want := 0) (cnt := (N0 : Int) + 1) (N := N0 + 1) (by rw [hlen.out]; exact hp) (by omega) (by omega) (by omega) (by rw [kn_GG]; decide) (by omega) (by rw [kn_GG, tgtGG]; exact hF))
  rw [kn_G] at HMG
  rw [kn_GG] at HGG
  obtain ⟨x2, hx2, hx3⟩ : ∃ x : Nat, plc want2 ((n : Int) + 1) = (x : Int) ∧ x ≤ n := by
    have h1 := plc_lo (i := want2) (n := (n : Int) + 1) (by omega)
    have h2 := plc_hi (i := want2) (n := (n : Int) + 1) (by omega)
    exact ⟨(plc want2 ((n : Int) + 1)).toNat, by omega, by omega⟩
  have HX := Hid.mk' hx2
  clear hx2
  by_cases hdown : nl (l.take p) + (N0 + 1) ≤ nl l
  · obtain ⟨F, hF⟩ := lnFirst_yes (l := l) (L := N0) (by omega)
    have HF := Hid.mk' hF
    clear hF
    have hNl : (N0 : Int) + 1 ≤ (nl l : Int) + 1 := by omega
    have hdn : (nl (l.take p) : Int) + ((N0 : Int) + 1) ≤ (nl l : Int) := by omega
    obtain ⟨q1, hq1⟩ : ∃ q1, lnAt l ((nl (l.take p) : Nat) + ((N0 + 1 : Nat) : Int)) want2 = some q1 := ⟨_, opt_yes (decide_eq_true (by omega))⟩
    obtain ⟨g1, g2⟩ := hK6.out q1 hq1
    have HJ := Hid.mk' (mvE_some (s := { data := #[106] }) (p := p) (want := want2) (cnt := (N0 : Int) + 1) (N := N0 + 1) (q := q1) hpl.out hw3 (by omega) (by omega) (by rw [kn_J]; decide) (by omega) (by rw [kn_J]; exact hq1))
    have HK := Hid.mk' (mvE_some (s := { data := #[107] }) (p := q1) (want := want2) (cnt := (N0 : Int) + 1) (N := N0 + 1) (q := home) (by rw [hlen.out]; exact g2) hw3 (by omega) (by omega) (by rw [kn_K]; decide) (by omega) (by rw [kn_K, decide_eq_false (by omega)]; exact g1))
    rw [kn_J, show wn l want2 (N0 + 1) 5 q1 = want2 from rfl] at HJ
    rw [kn_K] at HK
    clear hq1 g1 hK6
    have H99 := Hid.mk' h99
    have hb9 : decide (9999 < (N0 : Int) + 1) = false := decide_eq_false (by omega)
    clear h99
    go_wp2_with fail
    refine (move_any ao n c p want2 ((N0 : Int) + 1) l _ _ hw4 T4).mono ?_
    rintro e w5 ⟨rfl, hb5⟩
    rw [HJ.out]
    have B5 := Hid.mk' (bT B4.out hb5)
    clear hb5
    go_wp2_with fail
    refine (move_any ao n c q1 want2 ((N0 : Int) + 1) l _ _ hw4 (Hid.mk' (HT.out.keep (bAlloc B5.out _)))).mono ?_
    rintro e w6 ⟨rfl, hb6⟩
    rw [HK.out]
    have B6 := Hid.mk' (bAlloc (bT (bAlloc B5.out _) hb6))
    clear hb6
    have hNl2 : decide ((N0 : Int) ≤ (nl l : Int)) = true := decide_eq_true (by omega)
    go_wp2_with fail
    refine (move_any ao n c p want2 ((N0 : Int) + 1) l _ _ hw4 (Hid.mk' (HT.out.keep (B6.out _)))).mono ?_
    rintro e w7 ⟨rfl, hb7⟩
    rw [HMG.out F HF.out]
    have B7 := Hid.mk' (bT (B6.out _) hb7)
    clear hb7
    go_wp2_with fail
    refine (place_any want2 ((n : Int) + 1) _ (by omega) hw4 (by omega) (by omega)).mono ?_
    rintro e w9 ⟨rfl, hw⟩
    have hq := hw.symm
    subst hq
    clear hw
    rw [HX.out]
    go_wp2_with fail
    refine (move_any ao n c x2 0 ((N0 : Int) + 1) l _ _ (by omega) (Hid.mk' (HT.out.keep (bAlloc B7.out _)))).mono ?_
    rintro e w8 ⟨rfl, hb8⟩
    rw [HGG.out x2 hx3 F HF.out]
    have r8 : ∀ o, w8.cell? ⟨w7.heap.size, o, none⟩ = _ := fun o => (bcell hb8).1 _ o (by simp)
    have hz8 : w7.heap.size < w8.heap.size := by have := hb8.size; simp at this; omega
    have B8 := Hid.mk' (bT (bAlloc B7.out _) hb8)
    clear hb8
    go_wp2_with fail
    refine (first_any ao n c _ l _ (by omega) (Hid.mk' (HT.out.keep (bAlloc B8.out _)))).mono ?_
    rintro e w9 ⟨rfl, hw⟩
    have hq := hw.symm
    subst hq
    clear hw
    rw [pr_first, HF.out]
    rw [show prE (some F) 2 = .returned (.tuple #[.int .i64 F, .int .i64 0]) from rfl]
    go_wp2
    go_ret
    exact ⟨rfl, bAlloc B8.out _⟩
  · have hdn : (nl l : Int) < (nl (l.take p) : Int) + ((N0 : Int) + 1) := by omega
    have hdn2 : decide ((nl (l.take p) : Int) + ((N0 : Int) + 1) ≤ (nl l : Int)) = false := decide_eq_false (by omega)
    have HJ := Hid.mk' (mvE_none (s := { data := #[106] }) (l := l) (p := p) (want := want2) (cnt := (N0 : Int) + 1) (N := N0 + 1) hpl.out hw3 (by omega) (by omega) (by rw [kn_J]; decide) (by omega) (by rw [kn_J]; exact opt_no (decide_eq_false (by omega))))
    clear hK6
    have H99 := Hid.mk' h99
    have hb9 : decide (9999 < (N0 : Int) + 1) = false := decide_eq_false (by omega)
    clear h99
    go_wp2_with fail
    refine (move_any ao n c p want2 ((N0 : Int) + 1) l _ _ hw4 T4).mono ?_
    rintro e w5 ⟨rfl, hb5⟩
    rw [HJ.out]
    have B5 := Hid.mk' (bAlloc (bT B4.out hb5))
    clear hb5
    by_cases hNl : N0 ≤ nl l
    · obtain ⟨F, hF⟩ := lnFirst_yes hNl
      have HF := Hid.mk' hF
      clear hF
      have hNl' : (N0 : Int) ≤ (nl l : Int) := by omega
      go_wp2_with fail
      refine (move_any ao n c p want2 ((N0 : Int) + 1) l _ _ hw4 (Hid.mk' (HT.out.keep (B5.out _)))).mono ?_
      rintro e w7 ⟨rfl, hb7⟩
      rw [HMG.out F HF.out]
      have B7 := Hid.mk' (bT (B5.out _) hb7)
      clear hb7
      go_wp2_with fail
      refine (place_any want2 ((n : Int) + 1) _ (by omega) hw4 (by omega) (by omega)).mono ?_
      rintro e w9 ⟨rfl, hw⟩
      have hq := hw.symm
      subst hq
      clear hw
      rw [HX.out]
      go_wp2_with fail
      refine (move_any ao n c x2 0 ((N0 : Int) + 1) l _ _ (by omega) (Hid.mk' (HT.out.keep (bAlloc B7.out _)))).mono ?_
      rintro e w8 ⟨rfl, hb8⟩
      rw [HGG.out x2 hx3 F HF.out]
      have r8 : ∀ o, w8.cell? ⟨w7.heap.size, o, none⟩ = _ := fun o => (bcell hb8).1 _ o (by simp)
      have hz8 : w7.heap.size < w8.heap.size := by have := hb8.size; simp at this; omega
      have B8 := Hid.mk' (bT (bAlloc B7.out _) hb8)
      clear hb8
      go_wp2_with fail
      refine (first_any ao n c _ l _ (by omega) (Hid.mk' (HT.out.keep (bAlloc B8.out _)))).mono ?_
      rintro e w9 ⟨rfl, hw⟩
      have hq := hw.symm
      subst hq
      clear hw
      rw [pr_first, HF.out]
      rw [show prE (some F) 2 = .returned (.tuple #[.int .i64 F, .int .i64 0]) from rfl]
      go_wp2
      go_ret
      exact ⟨rfl, bAlloc B8.out _⟩
    · have HF := Hid.mk' (lnFirst_none (l := l) (L := N0) (by omega))
      have hNl' : ¬ ((N0 : Int) ≤ (nl l : Int)) := by omega
      have hNl2 : ¬ (N0 ≤ nl l) := by omega
      go_wp2_with fail
      refine (move_any ao n c p want2 ((N0 : Int) + 1) l _ _ hw4 (Hid.mk' (HT.out.keep (B5.out _)))).mono ?_
      rintro e w7 ⟨rfl, hb7⟩
      rw [HMGn.out HF.out]
      have B7 := Hid.mk' (bT (B5.out _) hb7)
      clear hb7
      go_wp2_with fail
      refine (place_any want2 ((n : Int) + 1) _ (by omega) hw4 (by omega) (by omega)).mono ?_
      rintro e w9 ⟨rfl, hw⟩
      have hq := hw.symm
      subst hq
      clear hw
      rw [HX.out]
      go_wp2_with fail
      refine (move_any ao n c x2 0 ((N0 : Int) + 1) l _ _ (by omega) (Hid.mk' (HT.out.keep (bAlloc B7.out _)))).mono ?_
      rintro e w8 ⟨rfl, hb8⟩
      rw [HGGn.out x2 hx3 HF.out]
      have r8 : ∀ o, w8.cell? ⟨w7.heap.size, o, none⟩ = _ := fun o => (bcell hb8).1 _ o (by simp)
      have hz8 : w7.heap.size < w8.heap.size := by have := hb8.size; simp at this; omega
      have B8 := Hid.mk' (bT (bAlloc B7.out _) hb8)
      clear hb8
      go_wp2_with fail
      refine (first_any ao n c _ l _ (by omega) (Hid.mk' (HT.out.keep (bAlloc B8.out _)))).mono ?_
      rintro e w9 ⟨rfl, hw⟩
      have hq := hw.symm
      subst hq
      clear hw
      rw [pr_first, HF.out]
      rw [show prE none 2 = .returned (.tuple #[.int .i64 0, .int .i64 2]) from rfl]
      go_wp2
      go_ret
      exact ⟨rfl, bAlloc B8.out _⟩
end Go.Proofs.Ytbkhbnmihnomaaa
