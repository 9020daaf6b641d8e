/- object.quoted. -/
import Derived.Test.YtgdhdegmjljbfaaQuo
namespace Go.Proofs.Ytgdhdegmjljbfaa
open Go.RowKit
/-- the line of a place: its length, its bytes -/
def lm (l : List UInt8) (k : Nat) : Nat := en l (bg l k) - bg l k
def lq (l : List UInt8) (k : Nat) : List UInt8 := (l.drop (bg l k)).take (lm l k)
/-- what a key of quotes chooses -/
def qx (l : List UInt8) (q : Int) (k : Nat) (a : Bool) : Option (Nat × Nat) := (qa (lq l k) q (k - bg l k) (lm l k) a).map fun x => (bg l k + x.1, bg l k + x.2)
/-- the line in memory -/
theorem tx_line1 {w : World} {a : Addr} {n c k : Nat} {l : List UInt8} (hk : k ≤ n) (h : Tx w (some a) n c l) : Tx w (some (a.add (bg l k))) (en l (bg l k) - bg l k) (c - bg l k) (lq l k) := by
  have hl := h.len
  have hb := bg_le l k
  have he := en_le (t := l) (s := bg l k) (by omega)
  exact (h.tail (s := bg l k) (by omega)).head (by omega)
theorem tx_line0 {w : World} {a : Addr} {n c k : Nat} {l : List UInt8} (hk : k ≤ n) (h : Tx w (some a) n c l) (hc : c = bg l k) : Tx w (some a) (en l (bg l k) - bg l k) 0 (lq l k) := by
  have hl := h.len
  have hb := bg_le l k
  have he := en_le (t := l) (s := bg l k) (by omega)
  exact (h.tail0 (s := bg l k) (by omega) hc).head (by omega)
set_option maxRecDepth 8000 in
set_option maxHeartbeats 4000000 in
theorem quoted_any (ao : Option Addr) (n c k : Nat) (q : Int) (a : Bool) (l : List UInt8) (w : World) (hk : k ≤ n) (HT : Hid (Tx w ao n c l)) :
    Calls Try.prog 41 #[.slice ao n c, .int .i64 (k : Int), .int .u8 q, .bool a] w fun e w' => e = oa (qx l q k a) ∧ Below w.heap.size w w' := by
  have hl := HT.out.len
  have hcap := HT.out.cap
  have hbig := HT.out.big
  have C1 := Hid.mk' (lineOf_any ao n c k l w hk HT)
  have hb := bg_le l k
  have he := en_le (t := l) (s := bg l k) (by omega)
  have hke := place_en (t := l) (i := k) (by omega)
  cases ao with
  | none =>
    obtain ⟨rfl, rfl, rfl⟩ := HT.out.none
    obtain rfl : k = 0 := by omega
    have HQ : Hid (qx [] q 0 a = none) := rfl
    have e1 : bg [] 0 = 0 := rfl
    have e2 : en [] 0 = 0 := rfl
    rw [e1, e2] at C1
    have e3 : qp [] q 0 0 = none := rfl
    go_enter Try.func41, Try.ntmps41
    go_wp2_with (first | (go_at_call 28; refine C1.out.mono ?_; rintro e w1 ⟨rfl, hb1⟩; have B1 := Hid.mk' hb1; clear hb1) | (go_at_call 57; have C2 := pairOfQuotes_any none 0 0 0 q [] w1 (tx_nil _); rw [e3] at C2; unfold oa at C2; simp only [Option.isSome_none, Option.getD_none] at C2; refine C2.mono ?_; rintro e w2 ⟨rfl, hw⟩; have hq := hw.symm; subst hq; clear hw))
    all_goals go_ret3
    all_goals exact ⟨by rw [HQ.out]; rfl, B1.out⟩
  | some ad =>
    have HL1 := Hid.mk' (fun W (_ : ¬ c = bg l k) (hW : Tx W (some ad) n c l) => tx_line1 hk hW)
    have HL0 := Hid.mk' (fun W (hc : c = bg l k) (hW : Tx W (some ad) n c l) => tx_line0 hk hW hc)
    have HX : Hid (qx l q k a = (qa (lq l k) q (k - bg l k) (en l (bg l k) - bg l k) a).map fun x => (bg l k + x.1, bg l k + x.2)) := rfl
    obtain ⟨s, Hs⟩ : ∃ s, Hid (bg l k = s) := ⟨_, rfl⟩
    rw [Hs.out] at C1 hb he hke HL1 HL0 HX
    obtain ⟨e, He⟩ : ∃ e, Hid (en l s = e) := ⟨_, rfl⟩
    rw [He.out] at C1 he hke HL1 HL0 HX
    obtain ⟨L, HLq⟩ : ∃ L, Hid (lq l k = L) := ⟨_, rfl⟩
    rw [HLq.out] at HL1 HL0 HX
    unfold qa at HX
    have HM := Hid.mk' (fun x (h : qp L q (k - s) (e - s) = some x) => qp_mem h)
    have CP := Hid.mk' (fun W A c' (h : Tx W A (e - s) c' L) => pairOfQuotes_any A (e - s) c' (k - s) q L W h)
    clear HLq He Hs
    generalize qp L q (k - s) (e - s) = r at *
    have hs0 : (0 : Int) ≤ (s : Int) := by omega
    have hs1 : (s : Int) ≤ (e : Int) := by omega
    have hs2 : (e : Int) ≤ (c : Int) := by omega
    have hsub : IntKind.i64.wrap ((k : Int) - (s : Int)) = ((k - s : Nat) : Int) := by rw [IntKind.wrap_i64]; omega
    cases r with
    | none =>
      unfold oa at CP
      simp only [Option.isSome_none] at CP
      go_enter Try.func41, Try.ntmps41
      go_wp2_with (first | (go_at_call 28; refine C1.out.mono ?_; rintro e w1 ⟨rfl, hb1⟩; have B1 := Hid.mk' hb1; clear hb1) | (go_at_call 57; refine (CP.out _ _ _ (by first | exact HL1.out _ (by first | assumption | omega) (HT.out.keep B1.out) | exact HL0.out _ rfl (HT.out.keep B1.out) | exact HL0.out _ (by assumption) (HT.out.keep B1.out))).mono ?_; rintro e w2 ⟨rfl, hw⟩; have hq := hw.symm; subst hq; clear hw))
      all_goals go_ret3
      all_goals exact ⟨by rw [HX.out]; rfl, B1.out⟩
    | some xy =>
      obtain ⟨x, y⟩ := xy
      have h1 : x < y := (HM.out (x, y) rfl).1
      have h2 : y < e - s := (HM.out (x, y) rfl).2.1
      have hx1 : IntKind.i64.wrap ((x : Int) + 1) = ((x + 1 : Nat) : Int) := by rw [IntKind.wrap_i64]; omega
      have hy1 : IntKind.i64.wrap ((y : Int) + 1) = ((y + 1 : Nat) : Int) := by rw [IntKind.wrap_i64]; omega
      unfold oa at CP
      simp only [Option.isSome_some, Option.getD_some] at CP
      cases a with
      | true =>
        have CB := Hid.mk' (fun W A c' (h : Tx W A (e - s) c' L) => withBlanks_any A (e - s) c' x (y + 1) L W (by omega) (by omega) h)
        have HWb : (wb L (e - s) x (y + 1)).1 ≤ e - s ∧ (wb L (e - s) x (y + 1)).2 ≤ e - s := by
          have a1 := bw_le L x
          have a2 := fw_ge L (e - s - (y + 1)) (y + 1)
          unfold wb
          refine ⟨?_, by simp only; omega⟩
          simp only
          split <;> omega
        obtain ⟨⟨F, T⟩, HFT⟩ : ∃ FT, Hid (wb L (e - s) x (y + 1) = FT) := ⟨_, rfl⟩
        rw [HFT.out] at CB HWb
        simp only at CB HWb
        have HX2 : Hid (qx l q k true = some (s + F, s + T)) := by unfold Hid; rw [HX.out]; simp only [Option.map_some, if_true]; rw [HFT.out]
        clear HX
        have hF : IntKind.i64.wrap ((s : Int) + (F : Int)) = ((s + F : Nat) : Int) := by rw [IntKind.wrap_i64]; omega
        have hT : IntKind.i64.wrap ((s : Int) + (T : Int)) = ((s + T : Nat) : Int) := by rw [IntKind.wrap_i64]; omega
        clear HM
        go_enter Try.func41, Try.ntmps41
        go_wp2_with (first | (go_at_call 28; refine C1.out.mono ?_; rintro e w1 ⟨rfl, hb1⟩; have B1 := Hid.mk' hb1; clear hb1) | (go_at_call 57; refine (CP.out _ _ _ (by first | exact HL1.out _ (by first | assumption | omega) (HT.out.keep B1.out) | exact HL0.out _ rfl (HT.out.keep B1.out) | exact HL0.out _ (by assumption) (HT.out.keep B1.out))).mono ?_; rintro e w2 ⟨rfl, hw⟩; have hq := hw.symm; subst hq; clear hw) | (go_at_call 58; refine (CB.out _ _ _ (by first | exact HL1.out _ (by first | assumption | omega) (HT.out.keep B1.out) | exact HL0.out _ rfl (HT.out.keep B1.out) | exact HL0.out _ (by assumption) (HT.out.keep B1.out))).mono ?_; rintro e w2 ⟨rfl, hw⟩; have hq := hw.symm; subst hq; clear hw))
        all_goals go_ret3
        all_goals exact ⟨by rw [HX2.out]; rfl, B1.out⟩
      | false =>
        have hF : IntKind.i64.wrap ((s : Int) + ((x + 1 : Nat) : Int)) = ((s + (x + 1) : Nat) : Int) := by rw [IntKind.wrap_i64]; omega
        have hT : IntKind.i64.wrap ((s : Int) + (y : Int)) = ((s + y : Nat) : Int) := by rw [IntKind.wrap_i64]; omega
        clear HM
        go_enter Try.func41, Try.ntmps41
        go_wp2_with (first | (go_at_call 28; refine C1.out.mono ?_; rintro e w1 ⟨rfl, hb1⟩; have B1 := Hid.mk' hb1; clear hb1) | (go_at_call 57; refine (CP.out _ _ _ (by first | exact HL1.out _ (by first | assumption | omega) (HT.out.keep B1.out) | exact HL0.out _ rfl (HT.out.keep B1.out) | exact HL0.out _ (by assumption) (HT.out.keep B1.out))).mono ?_; rintro e w2 ⟨rfl, hw⟩; have hq := hw.symm; subst hq; clear hw))
        all_goals go_ret3
        all_goals exact ⟨by rw [HX.out]; rfl, B1.out⟩
end Go.Proofs.Ytgdhdegmjljbfaa
