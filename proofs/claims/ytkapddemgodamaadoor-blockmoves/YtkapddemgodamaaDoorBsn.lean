/- The sentence's beginning: the program. -/
import Derived.Test.YtkapddemgodamaaDoorSnt
import Derived.Deep.LoopGhost
namespace Go.Proofs.YtkapddemgodamaaDoor
open Go.RowKit

def xi (l : List UInt8) : List Int := l.map fun b => (b.toNat : Int)
theorem xi_len (l : List UInt8) : (xi l).length = l.length := by simp [xi]
theorem xi_back (l : List UInt8) : Lib.bytesOf (xi l) = l := by
  unfold Lib.bytesOf xi
  rw [List.map_map]
  conv => rhs; rw [← List.map_id l]
  apply List.map_congr_left
  intro b _
  simp
theorem xi_byte (l : List UInt8) : ∀ x ∈ xi l, 0 ≤ x ∧ x < 256 := by
  intro x hx
  obtain ⟨b, _, rfl⟩ := List.mem_map.1 hx
  have := b.toNat_lt
  omega
theorem xi_at (l : List UInt8) (i : Nat) (h : i < l.length) : (xi l).getD i 0 = ((at8 l i).toNat : Int) := by
  simp [xi, at8, List.getD, h]
theorem contains_any {a : Addr} {n c g2 : Nat} {l : List UInt8} {w : World} (hn : n < 4294967281) (HG : Hid (Gl w)) (HT : Hid (Tx w (some a) n c l))
    (h0 : w.cell? ⟨g2, 0, none⟩ = some (.int .u8 10)) (h1 : w.cell? ⟨g2, 1, none⟩ = some (.int .u8 10)) :
    Calls Tryd.prog 45 #[.slice (some a) n c, .slice (some ⟨g2, 0, none⟩) 2 2] w fun e w' => e = .returned (.bool (Lib.contains l [10, 10])) ∧ Below w.heap.size w w' := by
  obtain ⟨m, hm⟩ := HG.out
  have hl := HT.out.len
  have := bytes_Contains_at a ⟨g2, 0, none⟩ n c 2 2 (xi l) [10, 10] m w (by rw [xi_len]; exact hl) rfl (xi_byte l) (by intro y hy; simp at hy; omega)
    (fun i hi => by rw [xi_at l i (by omega)]; exact HT.out.cells a rfl i hi)
    (fun i hi => by
      rw [add_none]
      rcases (show i = 0 ∨ i = 1 by omega) with rfl | rfl
      · exact h0
      · exact h1) HT.out.cap hn (by decide) hm
  rw [xi_back] at this
  refine this.mono ?_
  rintro e w' ⟨rfl, q, rfl⟩
  exact ⟨rfl, below_drewN _ _⟩
theorem contains_short {l : List UInt8} (h : l.length < 2) : Lib.contains l [10, 10] = false := by
  match l, h with
  | [], _ => rfl
  | [b], _ => simp [Lib.contains, Lib.index, List.isPrefixOf]

theorem Tx.head {w : World} {ao : Option Addr} {n c i : Nat} {l : List UInt8} (h : Tx w ao n c l) (hi : i ≤ n) : Tx w ao i c (l.take i) := by
  refine ⟨by rw [List.length_take, h.len]; omega, by have := h.cap; omega, by have := h.big; omega, h.nil, fun a ha j hj => ?_⟩
  rw [h.cells a ha j (by omega)]
  have : at8 (l.take i) j = at8 l j := by simp [at8, List.getD, hj]
  rw [this]

set_option maxHeartbeats 400000 in
/-- the loop that looks for the gap's beginning, by itself: what it has passed lies in the gap -/
theorem gs_step {l : List UInt8} {k : Nat} (h : gp l k = true) : gs l (k + 1) = gs l k := by simp [gs, h]
theorem gs_stop {l : List UInt8} {k : Nat} (h : gp l k = false) : gs l (k + 1) = k + 1 := by simp [gs, h]
theorem Tx.part {w : World} {a : Addr} {n c s k : Nat} {l : List UInt8} (h : Tx w (some a) n c l) (hs : s < k) (hk : k ≤ n) : Tx w (some (a.add s)) (k - s) (c - s) (mid l s k) := by
  have hl := h.len
  have hb := h.big
  have hc := h.cap
  refine ⟨by simp [mid]; omega, by omega, by omega, (fun e => by cases e), fun b hbb j hj => ?_⟩
  obtain rfl : a.add s = b := by simpa using hbb
  have hx := h.cells a rfl (s + j) (by omega)
  have e1 : (a.add s).add j = a.add (s + j) := by
    have hp := h.cells a rfl 0 (by omega)
    obtain ⟨g, o, r⟩ := a
    cases r with
    | none => rw [add_none, add_none, add_none, Nat.add_assoc]
    | some r => rcases Nat.eq_zero_or_pos s with rfl | hs0
                · simp [Addr.add]
                · unfold Addr.add; split <;> split <;> simp_all <;> omega
  rw [e1, hx]
  congr 3
  unfold mid at8
  rw [List.getD_eq_getElem?_getD, List.getD_eq_getElem?_getD, List.getElem?_take]
  rw [if_pos hj, List.getElem?_drop]

set_option maxHeartbeats 2000000 in
theorem beginsSentence_any {ao : Option Addr} {n c k : Nat} {l : List UInt8} {w : World} (hk : k ≤ n) (hn : n < 4294967281) (hc : c ≤ 9223372036854775807) (HG : Hid (Gl w)) (HT : Hid (Tx w ao n c l)) :
    Calls Tryd.prog 39 #[.slice ao n c, .int .i64 k] w fun e w' => e = .returned (.bool (bs l k)) ∧ Below w.heap.size w w' := by
  have hl := HT.out.len
  have hbig := HT.out.big
  have C1 := Hid.mk' (isGap_any hk HT)
  cases hg : gp l k with
  | true =>
    have HA : Hid (bs l k = false) := by unfold Hid bs; rw [hg]; rfl
    rw [hg] at C1
    generalize bs l k = r at *
    clear hg
    go_enter Tryd.func39, Tryd.ntmps39
    go_wp2_with (go_at_call 43; refine C1.out.mono ?_; rintro e w' ⟨rfl, hw⟩; have hq := hw.symm; subst hq; clear hw)
    go_ret
    exact ⟨by rw [HA.out]; rfl, Below.refl _ _⟩
  | false =>
    have hkn : k < n := by
      rcases Nat.lt_or_ge k n with h | h
      · exact h
      · exfalso; unfold gp at hg; rw [ka_end (by omega)] at hg; simp at hg
    have HA : Hid (bs l k = (decide (gs l k = 0) || (decide (gs l k < k) && es (l.take (gs l k))) || Lib.contains (mid l (gs l k) k) [10, 10])) := by unfold Hid bs; rw [hg]; rfl
    rw [hg] at C1
    have hgle := gs_le l k
    obtain ⟨G, hG⟩ : ∃ G, G = gs l k := ⟨_, rfl⟩
    rw [← hG] at HA hgle
    have HGS := Hid.mk' hG.symm
    generalize bs l k = r at *
    clear hg hG
    have hk0 : (0 : Int) ≤ (k : Int) := by omega
    go_enter Tryd.func39, Tryd.ntmps39
    go_wp2_with (go_at_call 43; refine C1.out.mono ?_; rintro e w' ⟨rfl, hw⟩; have hq := hw.symm; subst hq; clear hw)
    go_loopg [5] k (fun g x5 wx => ∃ i : Nat, x5 = .int .i64 i ∧ i ≤ g ∧ g ≤ i ∧ i ≤ k ∧ Hid (gs l i = G) ∧ w = wx)
    case atStart => exact ⟨k, rfl, Nat.le_refl _, Nat.le_refl _, Nat.le_refl _, HGS.out, rfl⟩
    case round =>
      obtain ⟨i, rfl, hi1, hi2, hik, HI, rfl⟩ := hrel
      by_cases hlast : i = 0 ∨ gp l (i - 1) = false
      · have hGi : G = i := by
          have := HI.out
          rcases hlast with h | h
          · subst h; exact this.symm
          · cases i with
            | zero => exact this.symm
            | succ j => rw [Nat.add_sub_cancel] at h; rw [gs_stop h] at this; exact this.symm
        have HA' : Hid (r = (decide (i = 0) || (decide (i < k) && es (l.take i)) || Lib.contains (mid l i k) [10, 10])) := by unfold Hid; rw [HA.out, hGi]
        clear HA HGS HI hGi hgle
        rcases Nat.eq_zero_or_pos i with h0 | h0
        · subst h0
          clear hlast
          go_wp2
          go_ret
          exact ⟨by rw [HA'.out]; rfl, Below.refl _ _⟩
        · have hgf : gp l (i - 1) = false := by rcases hlast with h | h; omega; exact h
          have C2 := Hid.mk' (isGap_any (k := i - 1) (by omega) HT)
          rw [hgf, show ((i - 1 : Nat) : Int) = (i : Int) - 1 by omega] at C2
          have hw1 : IntKind.i64.wrap ((i : Int) - 1) = (i : Int) - 1 := by rw [IntKind.wrap_i64]; omega
          have hip : (0 : Int) < (i : Int) := by omega
          have hiz : ((i : Int) == 0) = false := by simp; omega
          have hik' : (i : Int) ≤ (k : Int) := by omega
          have hkn' : (k : Int) ≤ (n : Int) := by omega
          have hcap := HT.out.cap
          have hkc : (k : Int) ≤ (c : Int) := by omega
          have hic : (i : Int) ≤ (c : Int) := by omega
          clear hlast hgf
          obtain ⟨gg, o, rfl, hcl⟩ := HT.out.at (by omega)
          clear hcl
          have kc := fun (w : World) (C : Array Value) (n c : Nat) => Lib.run_convert_bytes_const (P := Tryd.prog) w 22 5 C n c Tryd.underlying22 Tryd.underlying5
          have HIZ := Hid.mk' h0
          have hsub : IntKind.i64.wrap ((k : Int) - (i : Int)) = ((k - i : Nat) : Int) := by rw [IntKind.wrap_i64]; omega
          by_cases hlt : i < k
          · have hlt' : (i : Int) < (k : Int) := by omega
            have HTI := Hid.mk' (HT.out.head (i := i) (by omega))
            have C3 := Hid.mk' (endsSentence_any hc HTI)
            have HEV : Hid (r = (es (l.take i) || Lib.contains (mid l i k) [10, 10])) := by unfold Hid; rw [HA'.out]; have := HIZ.out; simp [hlt, show i ≠ 0 by omega]
            generalize es (l.take i) = e1 at *
            go_wp2_with (go_at_call 43; refine C2.out.mono ?_; rintro e w' ⟨rfl, hw⟩; have hq := hw.symm; subst hq; clear hw)
            refine C3.out.mono ?_
            rintro e w1 ⟨rfl, hb1⟩
            cases e1 with
            | true =>
              go_wp2
              go_ret
              exact ⟨by rw [HEV.out]; rfl, hb1⟩
            | false =>
              have HEV' : Hid (r = Lib.contains (mid l i k) [10, 10]) := by unfold Hid; rw [HEV.out]; rfl
              have G1 := Hid.mk' (HG.out.keep hb1)
              have TP := Hid.mk' ((HT.out.keep hb1).part hlt (by omega))
              have B1 := Hid.mk' hb1
              clear hb1
              go_wp2_with fail
              by_cases h2 : i + 2 ≤ k
              · refine (contains_any (by omega) (Hid.mk' (G1.out.keep (bAlloc (Below.refl _ _) _))) (by have := TP.out.keep (bAlloc (Below.refl _ _) (.cells #[.int .u8 10, .int .u8 10] 5 (2, 3))); rw [add_none] at this; exact this) (by rw [World.cell?_alloc_mark]; rfl) (by rw [World.cell?_alloc_mark]; rfl)).mono ?_
                rintro e w2 ⟨rfl, hb2⟩
                have B2 := Hid.mk' (bT (bAlloc B1.out _) hb2)
                clear hb2
                generalize Lib.contains (mid l i k) [10, 10] = e2 at *
                go_wp2
                go_ret
                exact ⟨by rw [HEV'.out]; rfl, B2.out⟩
              · refine (bytes_Contains_longer _ _ _ _ 2 2 _ (by decide) (by omega) (by decide)).mono ?_
                rintro e w' ⟨rfl, hq⟩
                have hq2 := hq.symm; subst hq2; clear hq
                have HEF : Hid (r = false) := by unfold Hid; rw [HEV'.out]; exact contains_short (by simp [mid]; omega)
                go_wp2
                go_ret
                exact ⟨by rw [HEF.out]; rfl, bAlloc B1.out _⟩
          · obtain rfl : i = k := by omega
            have hlt' : ¬ ((i : Int) < (i : Int)) := by omega
            go_wp2_with (go_at_call 43; refine C2.out.mono ?_; rintro e w' ⟨rfl, hw⟩; have hq := hw.symm; subst hq; clear hw)
            refine (bytes_Contains_longer _ _ 0 _ 2 2 _ (by decide) (by decide) (by decide)).mono ?_
            rintro e w' ⟨rfl, hq⟩
            have hq2 := hq.symm; subst hq2; clear hq
            have HEV : Hid (r = false) := by
              unfold Hid; rw [HA'.out]; have := HIZ.out
              rw [contains_short (by simp [mid])]
              simp [show i ≠ 0 by omega]
            go_wp2
            go_ret
            exact ⟨by rw [HEV.out]; rfl, bAlloc (Below.refl _ _) _⟩
      · have h0 : i ≠ 0 := fun h => hlast (.inl h)
        have hgt : gp l (i - 1) = true := by cases h : gp l (i - 1) with | true => rfl | false => exact absurd (.inr h) hlast
        cases gk with
        | zero => omega
        | succ gk =>
          have HK : Hid (gs l (i - 1) = G) := by
            unfold Hid
            have := HI.out
            obtain ⟨j, rfl⟩ : ∃ j, i = j + 1 := ⟨i - 1, by omega⟩
            rw [Nat.add_sub_cancel] at hgt ⊢
            rwa [gs_step hgt] at this
          have C2 := Hid.mk' (isGap_any (k := i - 1) (by omega) HT)
          rw [hgt, show ((i - 1 : Nat) : Int) = (i : Int) - 1 by omega] at C2
          have hw1 : IntKind.i64.wrap ((i : Int) - 1) = (i : Int) - 1 := by rw [IntKind.wrap_i64]; omega
          have hip : (0 : Int) < (i : Int) := by omega
          clear hlast hgt HI h0
          go_wp2_with (go_at_call 43; refine C2.out.mono ?_; rintro e w' ⟨rfl, hw⟩; have hq := hw.symm; subst hq; clear hw)
          go_roundg gk
          case measure => omega
          case rel => exact ⟨i - 1, by go_num, by omega, by omega, by omega, HK.out, rfl⟩
end Go.Proofs.YtkapddemgodamaaDoor
