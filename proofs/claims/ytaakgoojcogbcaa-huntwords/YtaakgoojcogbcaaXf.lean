/- hunt: lastTo. -/
import Derived.Test.YtaakgoojcogbcaaXd
import Derived.Test.YtaakgoojcogbcaaXe
namespace Go.Proofs.Ytaakgoojcogbcaa
open Go.RowKit
set_option maxRecDepth 8000 in
set_option maxHeartbeats 8000000 in
theorem lastTo_any (base : Nat) (w W : World) (Sb P : Nat) (ao : Option Addr) (n c : Nat) (t : List UInt8) (l : List Th) (q : Nat) (f : Int) (hf1 : -1 ≤ f) (hf2 : f ≤ n) (hl : l.length ≤ 256) (HP : Hid (Pat base w P l)) (HT : Hid (Tx w ao n c t)) (H : Hid (Sx w W Sb P ao n c t q)) :
    Calls Try.prog 66 #[.pointer (some ⟨Sb, 0, none⟩), .int .i64 f] W fun e W' => FfP w W Sb P ao n c t (LL l t f) e W' := by
  have hlen := HT.out.len
  have hbig := HT.out.big
  have hnb : (n : Int) ≤ 140737488355328 := by omega
  go_enter Try.func66, Try.ntmps66
  go_wp2_with fail
  go_loopg [1, 6, 7] (f + 1).toNat (fun m x1 x6 x7 wx => ∃ (k : Int) (r : Nat), x1 = .int .i64 k ∧ -1 ≤ k ∧ k ≤ n ∧ m = (k + 1).toNat ∧ Hid (∀ x ok, LL l t k x ok → LL l t f x ok) ∧ Hid (Sx w wx Sb P ao n c t r) ∧ Hid (W.grownBy wx (some Sb)))
  case atStart => exact ⟨f, q, rfl, hf1, hf2, rfl, fun x ok h => h, H.out, gb_refl _ _⟩
  case round =>
    clear H
    obtain ⟨k, r, rfl, hk1, hk2, hm, HF, HS, HG⟩ := hrel
    by_cases hkn : 0 ≤ k
    · have hkn' : decide (0 ≤ k) = true := decide_eq_true hkn
      obtain ⟨k, rfl⟩ : ∃ j : Nat, k = (j : Int) := ⟨k.toNat, by omega⟩
      have hkn2 : k ≤ n := by omega
      have CT := Hid.mk' (turnTo_any w wr Sb P ao n c t r k hkn2 HT HS)
      go_wp2_with fail
      refine CT.out.mono ?_
      rintro e w1 ⟨rfl, hs1, hg1⟩
      have S1 := Hid.mk' hs1
      have G1 := Hid.mk' (gb_trans HG.out hg1)
      obtain ⟨al, cl, hb1, ht1⟩ := S1.out.blk
      have c0 : w1.cell? ⟨Sb, 0, none⟩ = some (.slice ao n c) := hb1.cell (j := 0) rfl
      have c1 : w1.cell? ⟨Sb, 1, none⟩ = some (.pointer (some ⟨P, 0, none⟩)) := hb1.cell (j := 1) rfl
      have c2 : w1.cell? ⟨Sb, 2, none⟩ = some (.int .i64 (bg t k : Int)) := hb1.cell (j := 2) rfl
      have c3 : w1.cell? ⟨Sb, 3, none⟩ = some (.slice al (en t k - bg t k) cl) := hb1.cell (j := 3) rfl
      have hbk := bg_le t k
      have hek := en_ge t k
      have hel := en_le (t := t) (s := k) (by omega)
      have hw1 : IntKind.i64.wrap ((k : Int) - (bg t k : Int)) = ((k - bg t k : Nat) : Int) := by rw [IntKind.wrap_i64]; omega
      have HT1 := Hid.mk' ht1
      clear hb1 ht1 hs1 hg1 CT HS HG
      go_wp2_with fail
      have hS0 : (w1.drew).cell? ⟨Sb, 1, none⟩ = some (.pointer (some ⟨P, 0, none⟩)) ∧ (w1.drew).cell? ⟨Sb, 3, none⟩ = some (.slice al (en t k - bg t k) cl) ∧ (w1.drew).cell? ⟨Sb, 2, none⟩ = some (.int .i64 (bg t k : Int)) := ⟨c1, c3, c2⟩
      have CFd := Hid.mk' (fun W (h : Below w.heap.size w W) => lastMatch_any base W P l al (en t k - bg t k) cl (lp t k) (k - bg t k) hl (by omega) (HP.out.keep h) (HT1.out.keep h))
      go_region_held3 (fun w' => w'.cell? ⟨Sb, 1, none⟩ = some (.pointer (some ⟨P, 0, none⟩)) ∧ w'.cell? ⟨Sb, 3, none⟩ = some (.slice al (en t k - bg t k) cl) ∧ w'.cell? ⟨Sb, 2, none⟩ = some (.int .i64 (bg t k : Int))) (with_reducible assumption)
        (first | (go_at_call 89; refine (CFd.out _ S1.out.bel.drew).mono ?_; rintro e w2 ⟨a, ok, rfl, hfi, hb2⟩; have hS2 := And.intro (keepC hb2 hS0.1) (And.intro (keepC hb2 hS0.2.1) (keepC hb2 hS0.2.2))) | fail)
      have S2 := Hid.mk' ((S1.out.keep (Below.refl _ _).drew).keep hb2)
      have G2 := Hid.mk' (gb_trans (gb_trans G1.out (gb_of (Below.refl _ _).drew (some Sb))) (gb_of hb2 (some Sb)))
      have HFS := Hid.mk' hfi
      have g0 : w2.cell? ⟨Sb, 0, none⟩ = some (.slice ao n c) := keepC hb2 c0
      have g2 := hS2.2.2
      have g3 := hS2.2.1
      clear hfi hb2 hS0 hS2 CFd c0 c1 c2 c3 S1 G1
      cases ok with
      | true =>
        have ha : a ≤ k - bg t k := by
          rcases HFS.out with ⟨_, h, _⟩ | ⟨h, _⟩
          · exact h
          · cases h
        have HD := Hid.mk' (HF.out _ true (LL.line (by omega) HFS.out))
        have hw2 : IntKind.i64.wrap ((bg t k : Int) + (a : Int)) = ((bg t k + a : Nat) : Int) := by rw [IntKind.wrap_i64]; omega
        have CR := Hid.mk' (fun W (h : Below w.heap.size w W) => rest_at' ao n c (bg t k + a) t W (by omega) (HT.out.keep h))
        have hS3 : (w2.drew).cell? ⟨Sb, 0, none⟩ = some (.slice ao n c) ∧ (w2.drew).cell? ⟨Sb, 2, none⟩ = some (.int .i64 (bg t k : Int)) := ⟨g0, g2⟩
        go_wp2_with fail
        go_region_held3 (fun w' => w'.cell? ⟨Sb, 0, none⟩ = some (.slice ao n c) ∧ w'.cell? ⟨Sb, 2, none⟩ = some (.int .i64 (bg t k : Int))) (with_reducible assumption)
          (first | (go_at_call 25; refine (CR.out _ S2.out.bel.drew).mono ?_; rintro e w3 ⟨rfl, hw3⟩; subst hw3) | fail)
        go_wp2
        go_ret2
        exact ⟨_, true, k, rfl, HD.out, S2.out.keep (Below.refl _ _).drew, gb_trans G2.out (gb_of (Below.refl _ _).drew _)⟩
      | false =>
        have hw2 : IntKind.i64.wrap ((bg t k : Int) - 1) = (bg t k : Int) - 1 := by rw [IntKind.wrap_i64]; omega
        go_wp2_with fail
        go_roundg ((bg t k : Int) - 1 + 1).toNat
        case measure => omega
        case rel => exact ⟨(bg t k : Int) - 1, k, rfl, by omega, by omega, rfl, fun x ok h => HF.out x ok (LL.next (by omega) HFS.out h), S2.out, G2.out⟩
    · have hkn' : decide (0 ≤ k) = false := decide_eq_false hkn
      have HD := Hid.mk' (HF.out 0 false (LL.end (by omega)))
      go_wp2
      go_ret2
      exact ⟨0, false, r, rfl, HD.out, HS.out, HG.out⟩
end Go.Proofs.Ytaakgoojcogbcaa
/- hunt: onward, back. -/
namespace Go.Proofs.Ytaakgoojcogbcaa
open Go.RowKit
/-- is there a hit? -/
def okh (H : List Nat) : Bool := decide (0 < H.length)
/-- what onward and back answer -/
def NxP (w W0 : World) (Sb P : Nat) (ao : Option Addr) (n c : Nat) (t : List UInt8) (x : Nat) (ok : Bool) (e : Ending) (W' : World) : Prop :=
  ∃ q, e = .returned (.tuple #[.int .i64 (x : Int), .bool ok]) ∧ Sx w W' Sb P ao n c t q ∧ W0.grownBy W' (some Sb)
theorem fwd_nil (k : Nat) : fwd [] k = 0 := rfl
theorem bwd_nil (k : Nat) : bwd [] k = 0 := rfl
set_option maxRecDepth 8000 in
set_option maxHeartbeats 8000000 in
theorem onward_any (base : Nat) (w W : World) (Sb P : Nat) (ao : Option Addr) (n c : Nat) (t : List UInt8) (l : List Th) (q k : Nat) (hk : k ≤ n) (hl : l.length ≤ 256) (HP : Hid (Pat base w P l)) (HT : Hid (Tx w ao n c t)) (H : Hid (Sx w W Sb P ao n c t q)) :
    Calls Try.prog 37 #[.pointer (some ⟨Sb, 0, none⟩), .int .i64 (k : Int)] W fun e W' => NxP w W Sb P ao n c t (fwd (hs l t) k) (okh (hs l t)) e W' := by
  have hlen := HT.out.len
  have hbig := HT.out.big
  have hnb : (n : Int) ≤ 140737488355328 := by omega
  have d0 : W.cell? ⟨Sb, 0, none⟩ = some (.slice ao n c) := by obtain ⟨_, _, h1, _⟩ := H.out.blk; exact h1.cell (j := 0) rfl
  have CR := Hid.mk' (rest_any ao n c ((k + 1 : Nat) : Int) t W (by omega) (by omega) (HT.out.keep H.out.bel))
  have hr2 : (rs t (cl t ((k + 1 : Nat) : Int)) ≤ k) ↔ (rs t (k + 1) ≤ k ∨ k = n) := by
    by_cases e : k = n
    · rw [show cl t ((k + 1 : Nat) : Int) = n by unfold cl; rw [if_neg (by omega), if_pos (by omega)]; exact hlen]
      have := rs_le (t := t) n
      exact ⟨fun _ => .inr e, fun _ => by omega⟩
    · rw [show cl t ((k + 1 : Nat) : Int) = k + 1 by unfold cl; rw [if_neg (by omega), if_neg (by omega)]; omega]
      exact ⟨fun h => .inl h, fun h => by rcases h with h | h; exact h; omega⟩
  have hw1 : IntKind.i64.wrap ((k : Int) + 1) = ((k + 1 : Nat) : Int) := by rw [IntKind.wrap_i64]; omega
  have hw2 : IntKind.i64.wrap (((k + 1 : Nat) : Int) + 1) = ((k + 2 : Nat) : Int) := by rw [IntKind.wrap_i64]; omega
  -- from where
  obtain ⟨F, hF, HFF⟩ : ∃ F : Nat, F ≤ n + 2 ∧ Hid ((∀ x ok, FF l t F x ok → FF l t (upf t k) x ok) ∧ F = (if rs t (cl t ((k + 1 : Nat) : Int)) ≤ k then k + 2 else k + 1)) := by
    refine ⟨_, ?_, ?_, rfl⟩
    · split <;> omega
    · intro x ok h
      have hu : upf t k = (if rs t (k + 1) ≤ k then k + 2 else k + 1) := rfl
      by_cases e : k = n
      · -- behind the text there is nothing
        have hg : ∀ F x ok, n < F → FF l t F x ok → (ok = false ∧ x = 0) := by
          intro F x ok hF h
          rcases h with ⟨_, p, h1, h2, _⟩ | ⟨h1, h2, _⟩
          · have := mp_le h2; omega
          · exact ⟨h1, h2⟩
        have := hg _ x ok (by split <;> omega) h
        rw [this.1, this.2]
        exact FF.end (by rw [hu]; split <;> omega)
      · rw [hu]
        by_cases h1 : rs t (k + 1) ≤ k
        · rw [if_pos (hr2.2 (.inl h1))] at h; rw [if_pos h1]; exact h
        · rw [if_neg (fun h9 => by rcases hr2.1 h9 with h8 | h8; exact h1 h8; exact e h8)] at h; rw [if_neg h1]; exact h
  obtain ⟨R, HR⟩ : ∃ R, Hid (rs t (cl t ((k + 1 : Nat) : Int)) = R) := ⟨_, rfl⟩
  rw [HR.out] at CR HFF
  have CF := Hid.mk' (fun W1 q1 (h : Hid (Sx w W1 Sb P ao n c t q1)) => firstFrom_any base w W1 Sb P ao n c t l q1 F hF hl HP HT h)
  have C0 := Hid.mk' (fun W1 q1 (h : Hid (Sx w W1 Sb P ao n c t q1)) => firstFrom_any base w W1 Sb P ao n c t l q1 0 (by omega) hl HP HT h)
  clear hr2
  have key : Hid (∀ b, decide (R ≤ k) = b → F = if b then k + 2 else k + 1) := fun b hb => by
    rw [HFF.out.2]
    by_cases h : R ≤ k
    · rw [if_pos h, ← hb, decide_eq_true h]; rfl
    · rw [if_neg h, ← hb, decide_eq_false h]; rfl
  by_cases hR : R ≤ k
  · have hR' : decide ((R : Int) ≤ (k : Int)) = true := decide_eq_true (by omega)
    have hFk : F = k + 2 := by have := key.out true (decide_eq_true hR); simpa using this
    subst hFk
    clear key
    go_enter Try.func37, Try.ntmps37
    go_wp2_with fail
    refine CR.out.mono ?_
    rintro e w1 ⟨rfl, hw⟩
    subst hw
    go_wp2_with fail
    refine (CF.out _ q H).mono ?_
    rintro e w2 ⟨x, ok, q2, rfl, hx, hs2, hg2⟩
    have HX := Hid.mk' (HFF.out.1 x ok hx)
    have S2 := Hid.mk' hs2
    have G2 := Hid.mk' hg2
    clear hx hs2 hg2 CR CF
    cases ok with
    | true =>
      have HO : Hid (okh (hs l t) = true) := decide_eq_true HX.out.pos
      have HV := Hid.mk' (fwd_one HX.out)
      go_wp2
      go_ret2
      exact ⟨q2, by rw [HO.out, HV.out]; rfl, S2.out, G2.out⟩
    | false =>
      go_wp2_with fail
      refine (C0.out _ q2 S2).mono ?_
      rintro e w3 ⟨y, ok3, q3, rfl, hy, hs3, hg3⟩
      have G3 := Hid.mk' (gb_trans G2.out hg3)
      cases ok3 with
      | true =>
        have HO : Hid (okh (hs l t) = true) := decide_eq_true hy.pos
        have HV := Hid.mk' (fwd_two HX.out hy)
        clear hy
        go_wp2
        go_ret2
        exact ⟨q3, by rw [HO.out, HV.out]; rfl, hs3, G3.out⟩
      | false =>
        have hy0 : y = 0 := by
          rcases hy with ⟨h, _⟩ | ⟨_, h, _⟩
          · cases h
          · exact h
        subst hy0
        have HE := Hid.mk' (hs_none hy)
        clear hy
        go_wp2
        go_ret2
        exact ⟨q3, by rw [HE.out]; rfl, hs3, G3.out⟩
  · have hR' : decide ((R : Int) ≤ (k : Int)) = false := decide_eq_false (by omega)
    have hFk : F = k + 1 := by have := key.out false (decide_eq_false hR); simpa using this
    subst hFk
    clear key
    go_enter Try.func37, Try.ntmps37
    go_wp2_with fail
    refine CR.out.mono ?_
    rintro e w1 ⟨rfl, hw⟩
    subst hw
    go_wp2_with fail
    refine (CF.out _ q H).mono ?_
    rintro e w2 ⟨x, ok, q2, rfl, hx, hs2, hg2⟩
    have HX := Hid.mk' (HFF.out.1 x ok hx)
    have S2 := Hid.mk' hs2
    have G2 := Hid.mk' hg2
    clear hx hs2 hg2 CR CF
    cases ok with
    | true =>
      have HO : Hid (okh (hs l t) = true) := decide_eq_true HX.out.pos
      have HV := Hid.mk' (fwd_one HX.out)
      go_wp2
      go_ret2
      exact ⟨q2, by rw [HO.out, HV.out]; rfl, S2.out, G2.out⟩
    | false =>
      go_wp2_with fail
      refine (C0.out _ q2 S2).mono ?_
      rintro e w3 ⟨y, ok3, q3, rfl, hy, hs3, hg3⟩
      have G3 := Hid.mk' (gb_trans G2.out hg3)
      cases ok3 with
      | true =>
        have HO : Hid (okh (hs l t) = true) := decide_eq_true hy.pos
        have HV := Hid.mk' (fwd_two HX.out hy)
        clear hy
        go_wp2
        go_ret2
        exact ⟨q3, by rw [HO.out, HV.out]; rfl, hs3, G3.out⟩
      | false =>
        have hy0 : y = 0 := by
          rcases hy with ⟨h, _⟩ | ⟨_, h, _⟩
          · cases h
          · exact h
        subst hy0
        have HE := Hid.mk' (hs_none hy)
        clear hy
        go_wp2
        go_ret2
        exact ⟨q3, by rw [HE.out]; rfl, hs3, G3.out⟩
set_option maxRecDepth 8000 in
set_option maxHeartbeats 8000000 in
theorem back_any (base : Nat) (w W : World) (Sb P : Nat) (ao : Option Addr) (n c : Nat) (t : List UInt8) (l : List Th) (q k : Nat) (hk : k ≤ n) (hl : l.length ≤ 256) (HP : Hid (Pat base w P l)) (HT : Hid (Tx w ao n c t)) (H : Hid (Sx w W Sb P ao n c t q)) :
    Calls Try.prog 38 #[.pointer (some ⟨Sb, 0, none⟩), .int .i64 (k : Int)] W fun e W' => NxP w W Sb P ao n c t (bwd (hs l t) k) (okh (hs l t)) e W' := by
  have hlen := HT.out.len
  have hbig := HT.out.big
  have hnb : (n : Int) ≤ 140737488355328 := by omega
  have d0 : W.cell? ⟨Sb, 0, none⟩ = some (.slice ao n c) := by obtain ⟨_, _, h1, _⟩ := H.out.blk; exact h1.cell (j := 0) rfl
  have CR := Hid.mk' (rest_at' ao n c k t W hk (HT.out.keep H.out.bel))
  have hw1 : IntKind.i64.wrap ((k : Int) - 1) = (k : Int) - 1 := by rw [IntKind.wrap_i64]; omega
  obtain ⟨R, HR⟩ : ∃ R, Hid (rs t k = R) := ⟨_, rfl⟩
  have C0 := Hid.mk' (fun W1 q1 (h : Hid (Sx w W1 Sb P ao n c t q1)) => lastTo_any base w W1 Sb P ao n c t l q1 (n : Int) (by omega) (by omega) hl HP HT h)
  rw [HR.out] at CR
  by_cases hR : R = k
  · have hR' : ((R : Int) == (k : Int)) = true := by simp; omega
    have HFF : Hid ((∀ x ok, LL l t ((k : Int) - 1) x ok → LL l t (dnf t k) x ok) ∧ True) := ⟨fun x ok h => by unfold dnf; rw [if_pos (by rw [HR.out, hR])]; exact h, trivial⟩
    have CF := Hid.mk' (fun W1 q1 (h : Hid (Sx w W1 Sb P ao n c t q1)) => lastTo_any base w W1 Sb P ao n c t l q1 ((k : Int) - 1) (by omega) (by omega) hl HP HT h)
    clear hR
    go_enter Try.func38, Try.ntmps38
    go_wp2_with fail
    refine CR.out.mono ?_
    rintro e w1 ⟨rfl, hw⟩
    subst hw
    go_wp2_with fail
    refine (CF.out _ q H).mono ?_
    rintro e w2 ⟨x, ok, q2, rfl, hx, hs2, hg2⟩
    have HX := Hid.mk' (HFF.out.1 x ok hx)
    have S2 := Hid.mk' hs2
    have G2 := Hid.mk' hg2
    have d2 : w2.cell? ⟨Sb, 0, none⟩ = some (.slice ao n c) := by obtain ⟨_, _, h1, _⟩ := S2.out.blk; exact h1.cell (j := 0) rfl
    clear hx hs2 hg2 CR CF
    cases ok with
    | true =>
      have HO : Hid (okh (hs l t) = true) := decide_eq_true HX.out.pos
      have HV := Hid.mk' (bwd_one HX.out)
      go_wp2
      go_ret2
      exact ⟨q2, by rw [HO.out, HV.out]; rfl, S2.out, G2.out⟩
    | false =>
      go_wp2_with fail
      refine (C0.out _ q2 S2).mono ?_
      rintro e w3 ⟨y, ok3, q3, rfl, hy, hs3, hg3⟩
      have G3 := Hid.mk' (gb_trans G2.out hg3)
      cases ok3 with
      | true =>
        have HO : Hid (okh (hs l t) = true) := decide_eq_true hy.pos
        have HV := Hid.mk' (bwd_two HX.out (by rw [hlen]; exact hy))
        clear hy
        go_wp2
        go_ret2
        exact ⟨q3, by rw [HO.out, HV.out]; rfl, hs3, G3.out⟩
      | false =>
        have hy0 : y = 0 := by
          rcases hy with ⟨h, _⟩ | ⟨_, h, _⟩
          · cases h
          · exact h
        subst hy0
        have HE := Hid.mk' (hs_none' (by rw [hlen]; exact hy))
        clear hy
        go_wp2
        go_ret2
        exact ⟨q3, by rw [HE.out]; rfl, hs3, G3.out⟩
  · have hR' : ((R : Int) == (k : Int)) = false := by simp; omega
    have HFF : Hid ((∀ x ok, LL l t (k : Int) x ok → LL l t (dnf t k) x ok) ∧ True) := ⟨fun x ok h => by unfold dnf; rw [if_neg (by rw [HR.out]; exact hR)]; exact h, trivial⟩
    have CF := Hid.mk' (fun W1 q1 (h : Hid (Sx w W1 Sb P ao n c t q1)) => lastTo_any base w W1 Sb P ao n c t l q1 (k : Int) (by omega) (by omega) hl HP HT h)
    go_enter Try.func38, Try.ntmps38
    go_wp2_with fail
    refine CR.out.mono ?_
    rintro e w1 ⟨rfl, hw⟩
    subst hw
    go_wp2_with fail
    refine (CF.out _ q H).mono ?_
    rintro e w2 ⟨x, ok, q2, rfl, hx, hs2, hg2⟩
    have HX := Hid.mk' (HFF.out.1 x ok hx)
    have S2 := Hid.mk' hs2
    have G2 := Hid.mk' hg2
    have d2 : w2.cell? ⟨Sb, 0, none⟩ = some (.slice ao n c) := by obtain ⟨_, _, h1, _⟩ := S2.out.blk; exact h1.cell (j := 0) rfl
    clear hx hs2 hg2 CR CF
    cases ok with
    | true =>
      have HO : Hid (okh (hs l t) = true) := decide_eq_true HX.out.pos
      have HV := Hid.mk' (bwd_one HX.out)
      go_wp2
      go_ret2
      exact ⟨q2, by rw [HO.out, HV.out]; rfl, S2.out, G2.out⟩
    | false =>
      go_wp2_with fail
      refine (C0.out _ q2 S2).mono ?_
      rintro e w3 ⟨y, ok3, q3, rfl, hy, hs3, hg3⟩
      have G3 := Hid.mk' (gb_trans G2.out hg3)
      cases ok3 with
      | true =>
        have HO : Hid (okh (hs l t) = true) := decide_eq_true hy.pos
        have HV := Hid.mk' (bwd_two HX.out (by rw [hlen]; exact hy))
        clear hy
        go_wp2
        go_ret2
        exact ⟨q3, by rw [HO.out, HV.out]; rfl, hs3, G3.out⟩
      | false =>
        have hy0 : y = 0 := by
          rcases hy with ⟨h, _⟩ | ⟨_, h, _⟩
          · cases h
          · exact h
        subst hy0
        have HE := Hid.mk' (hs_none' (by rw [hlen]; exact hy))
        clear hy
        go_wp2
        go_ret2
        exact ⟨q3, by rw [HE.out]; rfl, hs3, G3.out⟩
end Go.Proofs.Ytaakgoojcogbcaa
