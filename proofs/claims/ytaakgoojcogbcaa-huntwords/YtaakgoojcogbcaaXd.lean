/- hunt: a search in memory; newSearch, turnTo. -/
import Derived.Test.YtaakgoojcogbcaaXc
import Derived.Test.YtaakgoojcogbcaaSe
import Derived.Test.YtaakgoojcogbcaaZFin
import Derived.StillTailTactics
import Derived.Deep.RegionHeld3
namespace Go.Proofs.Ytaakgoojcogbcaa
open Go.RowKit
theorem gb_of {W W' : World} (h : Below W.heap.size W W') (r : Option Nat) : W.grownBy W' r := ⟨h.os, h.tape, h.output, h.size, fun k hk _ => h.block k hk⟩
theorem bel_gb {w W W' : World} {Sb : Nat} (h : Below w.heap.size w W) (hl : w.heap.size ≤ Sb) (g : W.grownBy W' (some Sb)) : Below w.heap.size w W' :=
  h.grown g h.size (fun k hk => by injection hk with hk; omega)
/-- A search of hunt, its line looked at being the one of the place q. -/
structure Sx (w W : World) (Sb P : Nat) (ao : Option Addr) (n c : Nat) (t : List UInt8) (q : Nat) : Prop where
  bel : Below w.heap.size w W
  low : w.heap.size ≤ Sb
  le : q ≤ n
  blk : ∃ al cl, Blk W Sb 116 #[.slice ao n c, .pointer (some ⟨P, 0, none⟩), .int .i64 (bg t q : Int), .slice al (en t q - bg t q) cl] ∧ Tx w al (en t q - bg t q) cl (lp t q)
section
variable {w W W' : World} {Sb P : Nat} {ao : Option Addr} {n c : Nat} {t : List UInt8} {q : Nat}
theorem Sx.keep (s : Sx w W Sb P ao n c t q) (hb : Below W.heap.size W W') : Sx w W' Sb P ao n c t q := by
  obtain ⟨al, cl, h1, h2⟩ := s.blk
  exact ⟨s.bel.trans (hb.mono s.bel.size), s.low, s.le, al, cl, h1.keep hb, h2⟩
theorem Sx.same {r : Nat} (s : Sx w W Sb P ao n c t q) (hn : t.length = n) (h1 : bg t q ≤ r) (h2 : r ≤ en t q) : Sx w W Sb P ao n c t r := by
  have hq : q ≤ t.length := by have := s.le; omega
  have e1 := bg_same hq h1 h2
  have hb := bg_le t q
  have e2 : en t r = en t q := by rw [← en_bg hq] at h2 ⊢; exact en_same (by omega) h1 h2
  have hl := en_le hq
  refine ⟨s.bel, s.low, by omega, ?_⟩
  obtain ⟨al, cl, g1, g2⟩ := s.blk
  rw [e1, e2, lp_same hq h1 h2]
  exact ⟨al, cl, g1, g2⟩
end
set_option maxRecDepth 8000 in
set_option maxHeartbeats 4000000 in
theorem turnTo_any (w W : World) (Sb P : Nat) (ao : Option Addr) (n c : Nat) (t : List UInt8) (q k : Nat) (hk : k ≤ n) (HT : Hid (Tx w ao n c t)) (H : Hid (Sx w W Sb P ao n c t q)) :
    Calls Try.prog 88 #[.pointer (some ⟨Sb, 0, none⟩), .int .i64 (k : Int)] W fun e W' => e = .returned (.tuple #[]) ∧ Sx w W' Sb P ao n c t k ∧ W.grownBy W' (some Sb) := by
  have hlen := HT.out.len
  have hbig := HT.out.big
  have hqn := H.out.le
  have hq1 := bg_le t q
  have hq2 := en_ge t q
  have hq3 := en_le (t := t) (s := q) (by omega)
  obtain ⟨al, cl, hb, htx⟩ := H.out.blk
  have c0 : W.cell? ⟨Sb, 0, none⟩ = some (.slice ao n c) := hb.cell (j := 0) rfl
  have c2 : W.cell? ⟨Sb, 2, none⟩ = some (.int .i64 (bg t q : Int)) := hb.cell (j := 2) rfl
  have c3 : W.cell? ⟨Sb, 3, none⟩ = some (.slice al (en t q - bg t q) cl) := hb.cell (j := 3) rfl
  have z2 := hb.frozen 2
  have z3 := hb.frozen 3
  have HBk := Hid.mk' hb
  have HS := Hid.mk' (fun (h1 : bg t q ≤ k) (h2 : k ≤ en t q) => H.out.same hlen h1 h2)
  have CL := Hid.mk' (fun W (h : Tx W ao n c t) => lineAt_any ao n c k t W hk h)
  clear hb htx
  obtain ⟨B, HB⟩ : ∃ B, Hid (bg t q = B) := ⟨_, rfl⟩
  obtain ⟨E, HE⟩ : ∃ E, Hid (en t q = E) := ⟨_, rfl⟩
  rw [HB.out] at hq1 c2 c3 HBk HS
  rw [HE.out] at hq2 hq3 c3 HBk HS
  have hsum : IntKind.i64.wrap ((B : Int) + ((E - B : Nat) : Int)) = (E : Int) := by rw [IntKind.wrap_i64]; omega
  by_cases h1 : k < B
  · have h1' : decide ((k : Int) < (B : Int)) = true := decide_eq_true (by omega)
    have h1'' : (k : Int) < (B : Int) := by omega
    go_enter Try.func88, Try.ntmps88
    go_wp2_with fail
    go_quiet (fail)
    have HG := Hid.mk' (gb_of (bDrewN W nq) (some Sb))
    have S3 := Hid.mk' (H.out.keep (bDrewN W nq))
    have HB3 := Hid.mk' (HBk.out.keep (bDrewN W nq))
    clear c0 c2 c3 z2 z3 H HBk
    generalize W.drewN nq = w3 at *
    have c0 : w3.cell? ⟨Sb, 0, none⟩ = some (.slice ao n c) := HB3.out.cell (j := 0) rfl
    have C2 := Hid.mk' (CL.out w3 (HT.out.keep S3.out.bel))
    clear CL
    go_wp2_with fail
    refine C2.out.mono ?_
    rintro e w4 ⟨al4, cl4, rfl, ht4, hb4⟩
    have HB4 := Hid.mk' (HB3.out.keep hb4)
    have HG4 := Hid.mk' (gb_trans HG.out (gb_of hb4 (some Sb)))
    have L4 := Hid.mk' (S3.out.bel.trans (hb4.mono S3.out.bel.size))
    have HT4 : Hid (Tx w al4 (en t k - bg t k) cl4 (lp t k)) := ht4 w HT.out
    have d2 : w4.cell? ⟨Sb, 2, none⟩ = some (.int .i64 (B : Int)) := HB4.out.cell (j := 2) rfl
    have d3 : w4.cell? ⟨Sb, 3, none⟩ = some (.slice al (E - B) cl) := HB4.out.cell (j := 3) rfl
    have y2 := HB4.out.frozen 2
    have y3 := HB4.out.frozen 3
    have hlow := S3.out.low
    clear hb4 ht4 C2 S3 HB3 c0 HG
    go_wp2
    refine bodyPost_end (v := .tuple #[]) (by simp [results, Try.results88]) rfl ⟨rfl, ?_, ?_⟩
    · exact ⟨(L4.out.setCell hlow _).setCell hlow _, hlow, hk, al4, cl4, (HB4.out.set (j := 2) _).set (j := 3) _, HT4.out⟩
    · exact gb_trans HG4.out (gb_trans (gb_set _ _ _ _) (gb_set _ _ _ _))
  · have h1' : decide ((k : Int) < (B : Int)) = false := decide_eq_false (by omega)
    have h1'' : ¬ ((k : Int) < (B : Int)) := by omega
    by_cases h2 : E < k
    · have h2' : decide ((E : Int) < (k : Int)) = true := decide_eq_true (by omega)
      have h2'' : ((E : Int) < (k : Int)) := by omega
      go_enter Try.func88, Try.ntmps88
      go_wp2_with fail
      go_quiet (fail)
      have HG := Hid.mk' (gb_of (bDrewN W nq) (some Sb))
      have S3 := Hid.mk' (H.out.keep (bDrewN W nq))
      have HB3 := Hid.mk' (HBk.out.keep (bDrewN W nq))
      clear c0 c2 c3 z2 z3 H HBk
      generalize W.drewN nq = w3 at *
      have c0 : w3.cell? ⟨Sb, 0, none⟩ = some (.slice ao n c) := HB3.out.cell (j := 0) rfl
      have C2 := Hid.mk' (CL.out w3 (HT.out.keep S3.out.bel))
      clear CL
      go_wp2_with fail
      refine C2.out.mono ?_
      rintro e w4 ⟨al4, cl4, rfl, ht4, hb4⟩
      have HB4 := Hid.mk' (HB3.out.keep hb4)
      have HG4 := Hid.mk' (gb_trans HG.out (gb_of hb4 (some Sb)))
      have L4 := Hid.mk' (S3.out.bel.trans (hb4.mono S3.out.bel.size))
      have HT4 : Hid (Tx w al4 (en t k - bg t k) cl4 (lp t k)) := ht4 w HT.out
      have d2 : w4.cell? ⟨Sb, 2, none⟩ = some (.int .i64 (B : Int)) := HB4.out.cell (j := 2) rfl
      have d3 : w4.cell? ⟨Sb, 3, none⟩ = some (.slice al (E - B) cl) := HB4.out.cell (j := 3) rfl
      have y2 := HB4.out.frozen 2
      have y3 := HB4.out.frozen 3
      have hlow := S3.out.low
      clear hb4 ht4 C2 S3 HB3 c0 HG
      go_wp2
      refine bodyPost_end (v := .tuple #[]) (by simp [results, Try.results88]) rfl ⟨rfl, ?_, ?_⟩
      · exact ⟨(L4.out.setCell hlow _).setCell hlow _, hlow, hk, al4, cl4, (HB4.out.set (j := 2) _).set (j := 3) _, HT4.out⟩
      · exact gb_trans HG4.out (gb_trans (gb_set _ _ _ _) (gb_set _ _ _ _))
    · have h2' : decide ((E : Int) < (k : Int)) = false := decide_eq_false (by omega)
      have h2'' : ¬ ((E : Int) < (k : Int)) := by omega
      have HS2 := Hid.mk' (HS.out (by omega) (by omega))
      go_enter Try.func88, Try.ntmps88
      go_wp2_with fail
      go_quiet (fail)
      go_wp2
      refine bodyPost_end (v := .tuple #[]) (by simp [results, Try.results88]) rfl ⟨rfl, HS2.out.keep (bDrewN _ _), gb_of (bDrewN _ _) _⟩
set_option maxRecDepth 8000 in
set_option maxHeartbeats 4000000 in
theorem newSearch_any (w : World) (P : Nat) (ao : Option Addr) (n c : Nat) (t : List UInt8) (k : Nat) (hk : k ≤ n) (HT : Hid (Tx w ao n c t)) :
    Calls Try.prog 36 #[.slice ao n c, .int .i64 (k : Int), .pointer (some ⟨P, 0, none⟩)] w fun e W' => ∃ Sb, e = .returned (.pointer (some ⟨Sb, 0, none⟩)) ∧ Sx w W' Sb P ao n c t k ∧ Below w.heap.size w W' := by
  have C2 := Hid.mk' (lineAt_any ao n c k t w hk HT)
  go_enter Try.func36, Try.ntmps36
  go_wp2_with fail
  refine C2.out.mono ?_
  rintro e w4 ⟨al4, cl4, rfl, ht4, hb4⟩
  have L4 := Hid.mk' hb4
  have HT4 := Hid.mk' (ht4 w HT.out)
  clear ht4 hb4
  go_wp2
  go_ret
  exact ⟨w4.heap.size, rfl, ⟨bAlloc L4.out _, L4.out.size, hk, al4, cl4, Blk.new _ _ _, HT4.out⟩, bAlloc L4.out _⟩
end Go.Proofs.Ytaakgoojcogbcaa
/- hunt: firstFrom. -/
namespace Go.Proofs.Ytaakgoojcogbcaa
open Go.RowKit
/-- what firstFrom answers -/
def FfP (w W0 : World) (Sb P : Nat) (ao : Option Addr) (n c : Nat) (t : List UInt8) (R : Nat → Bool → Prop) (e : Ending) (W' : World) : Prop :=
  ∃ (x : Nat) (ok : Bool) (q : Nat), e = .returned (.tuple #[.int .i64 (x : Int), .bool ok]) ∧ R x ok ∧ Sx w W' Sb P ao n c t q ∧ W0.grownBy W' (some Sb)
theorem rest_at' (ao : Option Addr) (n c k : Nat) (l : List UInt8) (w : World) (hk : k ≤ n) (HT : Hid (Tx w ao n c l)) :
    Calls Try.prog 25 #[.slice ao n c, .int .i64 (k : Int)] w fun e w' => e = .returned (.int .i64 (rs l k : Int)) ∧ w' = w := by
  have hlen := HT.out.len
  have hbig := HT.out.big
  have := rest_any ao n c (k : Int) l w (by omega) (by omega) HT
  rw [show cl l (k : Int) = k by unfold cl; rw [if_neg (by omega), if_neg (by omega)]; omega] at this
  exact this
set_option maxRecDepth 8000 in
set_option maxHeartbeats 8000000 in
theorem firstFrom_any (base : Nat) (w W : World) (Sb P : Nat) (ao : Option Addr) (n c : Nat) (t : List UInt8) (l : List Th) (q f : Nat) (hf : f ≤ n + 2) (hl : l.length ≤ 256) (HP : Hid (Pat base w P l)) (HT : Hid (Tx w ao n c t)) (H : Hid (Sx w W Sb P ao n c t q)) :
    Calls Try.prog 65 #[.pointer (some ⟨Sb, 0, none⟩), .int .i64 (f : Int)] W fun e W' => FfP w W Sb P ao n c t (FF l t f) e W' := by
  have hlen := HT.out.len
  have hbig := HT.out.big
  have hmx : Try.prog.follows .mixedOrders = true := mixed
  have hnb : (n : Int) ≤ 140737488355328 := by omega
  have hcell : Hid (∀ (W1 : World) (k : Nat), Sx w W1 Sb P ao n c t k → W1.cell? ⟨Sb, 0, none⟩ = some (.slice ao n c)) := fun W1 k h => by obtain ⟨_, _, h1, _⟩ := h.blk; exact h1.cell (j := 0) rfl
  have d0 := hcell.out W q H.out
  go_enter Try.func65, Try.ntmps65
  go_wp2_with fail
  go_loopg [1, 6, 7, 8] (n + 3 - f) (fun m x1 x6 x7 x8 wx => ∃ (k r : Nat), x1 = .int .i64 (k : Int) ∧ k ≤ n + 2 ∧ m = n + 3 - k ∧ Hid (∀ x ok, FF l t k x ok → FF l t f x ok) ∧ Hid (Sx w wx Sb P ao n c t r) ∧ Hid (W.grownBy wx (some Sb)))
  case atStart => exact ⟨f, q, rfl, hf, rfl, fun x ok h => h, H.out, gb_refl _ _⟩
  case round =>
    clear d0 H
    obtain ⟨k, r, rfl, hk, hm, HF, HS, HG⟩ := hrel
    have d0 := hcell.out _ r HS.out
    by_cases hkn : k ≤ n
    · have hkn' : (k : Int) ≤ (n : Int) := by omega
      have CT := Hid.mk' (turnTo_any w wr Sb P ao n c t r k hkn HT HS)
      go_wp2_with fail
      refine CT.out.mono ?_
      rintro e w1 ⟨rfl, hs1, hg1⟩
      have S1 := Hid.mk' hs1
      have G1 := Hid.mk' (gb_trans HG.out hg1)
      obtain ⟨al, cl, hb1, ht1⟩ := S1.out.blk
      have c0 : w1.cell? ⟨Sb, 0, none⟩ = some (.slice ao n c) := hb1.cell (j := 0) rfl
      have c1 : w1.cell? ⟨Sb, 1, none⟩ = some (.pointer (some ⟨P, 0, none⟩)) := hb1.cell (j := 1) rfl
      have c2 : w1.cell? ⟨Sb, 2, none⟩ = some (.int .i64 (bg t k : Int)) := hb1.cell (j := 2) rfl
      have c3 : w1.cell? ⟨Sb, 3, none⟩ = some (.slice al (en t k - bg t k) cl) := hb1.cell (j := 3) rfl
      have hbk := bg_le t k
      have hek := en_ge t k
      have hel := en_le (t := t) (s := k) (by omega)
      have hw1 : IntKind.i64.wrap ((k : Int) - (bg t k : Int)) = ((k - bg t k : Nat) : Int) := by rw [IntKind.wrap_i64]; omega
      have HT1 := Hid.mk' ht1
      clear hb1 ht1 hs1 hg1 CT HS HG d0
      go_wp2_with fail
      have hS0 : (w1.drew).cell? ⟨Sb, 1, none⟩ = some (.pointer (some ⟨P, 0, none⟩)) ∧ (w1.drew).cell? ⟨Sb, 3, none⟩ = some (.slice al (en t k - bg t k) cl) ∧ (w1.drew).cell? ⟨Sb, 2, none⟩ = some (.int .i64 (bg t k : Int)) := ⟨c1, c3, c2⟩
      have CFd := Hid.mk' (fun W (h : Below w.heap.size w W) => find_any base W P l al (en t k - bg t k) cl (lp t k) ((k - bg t k : Nat) : Int) hl (HP.out.keep h) (HT1.out.keep h))
      go_region_held3 (fun w' => w'.cell? ⟨Sb, 1, none⟩ = some (.pointer (some ⟨P, 0, none⟩)) ∧ w'.cell? ⟨Sb, 3, none⟩ = some (.slice al (en t k - bg t k) cl) ∧ w'.cell? ⟨Sb, 2, none⟩ = some (.int .i64 (bg t k : Int))) (with_reducible assumption)
        (first | (go_at_call 13; refine (CFd.out _ S1.out.bel.drew).mono ?_; rintro e w2 ⟨a, b, ok, rfl, hfi, hb2⟩; have hS2 := And.intro (keepC hb2 hS0.1) (And.intro (keepC hb2 hS0.2.1) (keepC hb2 hS0.2.2))) | fail)
      have S2 := Hid.mk' ((S1.out.keep (Below.refl _ _).drew).keep hb2)
      have G2 := Hid.mk' (gb_trans (gb_trans G1.out (gb_of (Below.refl _ _).drew (some Sb))) (gb_of hb2 (some Sb)))
      have hfs : FS l (lp t k) (k - bg t k) a b ok := by
        rcases hfi with ⟨h9, _⟩ | ⟨_, _, h9⟩
        · rw [lp_len (by omega)] at h9; omega
        · rw [Int.toNat_natCast] at h9; exact h9
      have HFS := Hid.mk' hfs
      have g0 := hcell.out _ k S2.out
      have g2 := hS2.2.2
      have g3 := hS2.2.1
      clear hfs hfi hb2 hS0 hS2 CFd c0 c1 c2 c3 S1 G1
      cases ok with
      | true =>
        have ha : a ≤ en t k - bg t k := by have := HFS.out.yes.2.1; rw [lp_len (by omega)] at this; exact this
        have HD := Hid.mk' (HF.out _ true (FF.line (by omega) HFS.out))
        have hw2 : IntKind.i64.wrap ((bg t k : Int) + (a : Int)) = ((bg t k + a : Nat) : Int) := by rw [IntKind.wrap_i64]; omega
        have CR := Hid.mk' (fun W (h : Below w.heap.size w W) => rest_at' ao n c (bg t k + a) t W (by omega) (HT.out.keep h))
        have hS3 : (w2.drew).cell? ⟨Sb, 0, none⟩ = some (.slice ao n c) ∧ (w2.drew).cell? ⟨Sb, 2, none⟩ = some (.int .i64 (bg t k : Int)) := ⟨g0, g2⟩
        go_wp2_with fail
        go_region_held3 (fun w' => w'.cell? ⟨Sb, 0, none⟩ = some (.slice ao n c) ∧ w'.cell? ⟨Sb, 2, none⟩ = some (.int .i64 (bg t k : Int))) (with_reducible assumption)
          (first | (go_at_call 25; refine (CR.out _ S2.out.bel.drew).mono ?_; rintro e w3 ⟨rfl, hw3⟩; subst hw3) | fail)
        go_wp2
        go_ret2
        exact ⟨_, true, k, rfl, HD.out, S2.out.keep (Below.refl _ _).drew, gb_trans G2.out (gb_of (Below.refl _ _).drew _)⟩
      | false =>
        have hw2 : IntKind.i64.wrap ((bg t k : Int) + ((en t k - bg t k : Nat) : Int)) = (en t k : Int) := by rw [IntKind.wrap_i64]; omega
        have hw3 : IntKind.i64.wrap ((en t k : Int) + 1) = ((en t k + 1 : Nat) : Int) := by rw [IntKind.wrap_i64]; omega
        go_wp2_with fail
        go_quiet (fail)
        go_wp2_with fail
        go_roundg (n + 3 - (en t k + 1))
        case measure => omega
        case rel => exact ⟨en t k + 1, k, rfl, by omega, rfl, fun x ok h => HF.out x ok (FF.next (by omega) HFS.out h), S2.out.keep (bDrewN _ _), gb_trans G2.out (gb_of (bDrewN _ _) _)⟩
    · have hkn' : ¬ ((k : Int) ≤ (n : Int)) := by omega
      have HD := Hid.mk' (HF.out 0 false (FF.end (by omega)))
      go_wp2
      go_ret2
      exact ⟨0, false, r, rfl, HD.out, HS.out, HG.out⟩
end Go.Proofs.Ytaakgoojcogbcaa
