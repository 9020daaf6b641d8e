/- Lists, Sml, Fn2, Ref3 -/
import Derived.Test.YtppefcnopkmhbaaGreatDoorPq01
import Derived.Lib.BufferRead
namespace Go.Proofs.YtppefcnopkmhbaaGreatDoor
open Go.RowKit

theorem below_drewN (w : World) (n : Nat) : Below w.heap.size w (w.drewN n) := ⟨rfl, rfl, rfl, Nat.le_refl _, fun _ _ => rfl⟩
theorem conv_drew {W : World} {ao : Option Addr} {n c : Nat} {l : List UInt8} (h : Tx W ao n c l) : ∀ q, (convert 22 9 (.slice ao n c)).run Tryz.prog (W.drewN q) = .ok (.string ⟨l.toArray⟩) (W.drewN q) := fun q => conv_tx (h.keep (below_drewN W q))
theorem own_txl {W : World} {base n : Nat} {v : Value} {l : List UInt8} (h : W.ownsRow base 5 1 v n (bv l)) (hb : n ≤ 140737488355328) : ∃ ao c, v = .slice ao n c ∧ Tx W ao n c l := by
  have hl : l.length = n := by have := h.1; rw [bv_length] at this; omega
  rcases h.2 with ⟨rfl, rfl⟩ | ⟨g, cap, cur, rfl, h1, h2, h3, h4, h5, h6⟩
  · obtain rfl := List.eq_nil_of_length_eq_zero hl
    exact ⟨none, 0, rfl, tx_nil W⟩
  · refine ⟨_, cap, rfl, hl, h3, by omega, (fun h => by cases h), fun a ha j hj => ?_⟩
    obtain rfl : (⟨g, 0, none⟩ : Addr) = a := by simpa using ha
    rw [add_none, Nat.zero_add, h.cellAt j (by omega)]
    exact bv_at l j (by omega)

theorem sp_next {l : List UInt8} {i : Nat} (h : i + 1 ≤ nl l) : en l (sp l i) < l.length ∧ sp l (i + 1) = en l (sp l i) + 1 := by
  have hs := sp_st (t := l) (n := i) (by omega)
  have he : en l (sp l i) < l.length := by
    rcases Nat.lt_or_ge (en l (sp l i)) l.length with h1 | h1
    · exact h1
    · have := hs.last (by have := en_le hs.low'; omega); omega
  exact ⟨he, sp_eq (hs.next he)⟩
theorem sp_zero (l : List UInt8) : sp l 0 = 0 := sp_eq (St.zero l)
end Go.Proofs.YtppefcnopkmhbaaGreatDoor

namespace Go.Proofs.YtppefcnopkmhbaaGreatDoor
open Go.RowKit

theorem bset {w W : World} (h : Below w.heap.size w W) {a : Addr} (v : Value) (ha : w.heap.size ≤ a.block) : Below w.heap.size w (W.setCell a v) := h.setCell ha v
/-- a range and an error -/
structure Rg where
  F : Int
  T : Int
  L : Bool
  D : Bool
  E : Int
/-- as a call gives it -/
def rt (r : Rg) : Ending := .returned (.tuple #[.agg #[.int .i64 r.F, .int .i64 r.T, .bool r.L, .bool r.D], .int .i64 r.E])
/-- refused -/
def rno : Rg := ⟨0, 0, false, false, 2⟩
/-- the range of lines -/
def whY (l : List UInt8) (s e : Nat) : Rg := if e < l.length then ⟨s, e + 1, true, false, 0⟩ else if 0 < s then ⟨s - 1, e, true, true, 0⟩ else ⟨s, e, true, false, 0⟩
def wh (l : List UInt8) (f t : Int) : Rg := if lnB l f && lnB l t && decide (f ≤ t) then whY l (sp l f.toNat) (en l (sp l t.toNat)) else rno
theorem ln_at {l : List UInt8} {k : Nat} (h : k ≤ nl l) : lnB l (k : Int) = true := decide_eq_true (by omega)

set_option maxRecDepth 8000
/-- is the byte at a place a line end -/
def leB (l : List UInt8) (i : Int) : Bool := decide (0 ≤ i ∧ i < l.length) && le (at8 l i.toNat)
set_option maxHeartbeats 1000000 in
theorem isLE_any (ao : Option Addr) (n c : Nat) (i : Int) (l : List UInt8) (w : World) (HT : Hid (Tx w ao n c l)) :
    Calls Tryz.prog 129 #[.slice ao n c, .int .i64 i] w fun e w' => e = .returned (.bool (leB l i)) ∧ w' = w := by
  have hlen := HT.out.len
  by_cases h0 : 0 ≤ i
  · by_cases h1 : i < n
    · obtain ⟨k, rfl⟩ := Int.eq_ofNat_of_zero_le h0
      obtain ⟨g, o, rfl, hc⟩ := HT.out.at (by omega)
      have hc0 := hc k (by omega)
      have hd : leB l (k : Int) = le (at8 l k) := by unfold leB; rw [decide_eq_true (by omega)]; rfl
      have hD := Hid.mk' hd
      clear hc hd hlen
      cases hb : le (at8 l k) with
      | true =>
        have h10 : (((at8 l k).toNat : Int) == 10) = true := hb
        rw [hb] at hD
        clear hb
        go_enter Tryz.func129, Tryz.ntmps129
        go_wp2
        go_ret
        exact ⟨by rw [hD.out]; rfl, rfl⟩
      | false =>
        have h10 : (((at8 l k).toNat : Int) == 10) = false := hb
        rw [hb] at hD
        clear hb
        go_enter Tryz.func129, Tryz.ntmps129
        go_wp2
        go_ret
        exact ⟨by rw [hD.out]; rfl, rfl⟩
    · have hd := Hid.mk' (show leB l i = false by unfold leB; rw [decide_eq_false (by omega)]; rfl)
      clear hlen
      go_enter Tryz.func129, Tryz.ntmps129
      go_wp2
      go_ret
      exact ⟨by rw [hd.out]; rfl, rfl⟩
  · have hd := Hid.mk' (show leB l i = false by unfold leB; rw [decide_eq_false (by omega)]; rfl)
    clear hlen
    go_enter Tryz.func129, Tryz.ntmps129
    go_wp2
    go_ret
    exact ⟨by rw [hd.out]; rfl, rfl⟩

end Go.Proofs.YtppefcnopkmhbaaGreatDoor

namespace Go.Proofs.YtppefcnopkmhbaaGreatDoor
open Go.RowKit

set_option maxRecDepth 8000
set_option maxHeartbeats 400000 in
theorem lastByte_any (s e : Nat) (w : World) (h : s ≤ e) (hb : (e : Int) ≤ 150000000000000) :
    Calls Tryz.prog 123 #[.int .i64 s, .int .i64 e] w fun x w' => x = .returned (.int .i64 (lb s e)) ∧ w' = w := by
  have hm : Hid ((max (s : Int) (e - 1)) = (lb s e : Int)) := by unfold Hid lb; omega
  go_enter Tryz.func123, Tryz.ntmps123
  go_wp2
  all_goals go_ret
  all_goals refine ⟨?_, rfl⟩
  all_goals (have hm := hm.out; first | (rw [← hm]; rfl) | (simp; omega) | skip)
set_option maxHeartbeats 400000 in
theorem isBlank_any (b : UInt8) (w : World) : Calls Tryz.prog 122 #[.int .u8 (b.toNat : Int)] w fun x w' => x = .returned (.bool (bl b)) ∧ w' = w := by
  have HB : Hid (bl b = (((b.toNat : Int) == 32) || ((b.toNat : Int) == 9))) := rfl
  generalize bl b = r at *
  generalize (b.toNat : Int) = z at *
  by_cases h1 : z = 32
  · subst h1
    go_enter Tryz.func122, Tryz.ntmps122
    go_wp2
    go_ret
    exact ⟨by rw [HB.out]; rfl, rfl⟩
  · by_cases h2 : z = 9
    · subst h2
      go_enter Tryz.func122, Tryz.ntmps122
      go_wp2
      go_ret
      exact ⟨by rw [HB.out]; rfl, rfl⟩
    · have e1 : (z == 32) = false := by simpa using h1
      have e2 : (z == 9) = false := by simpa using h2
      have HC : Hid (r = false) := by unfold Hid; rw [HB.out, e1, e2]; rfl
      clear HB
      go_enter Tryz.func122, Tryz.ntmps122
      go_wp2
      go_ret
      exact ⟨by rw [HC.out]; rfl, rfl⟩
set_option maxHeartbeats 1000000 in
theorem lat_any (ao : Option Addr) (n c : Nat) (L C : Int) (l : List UInt8) (w : World) (h63 : L ≤ 9223372036854775807) (hC : C ≤ 9223372036854775807) (HT : Hid (Tx w ao n c l)) :
    Calls Tryz.prog 131 #[.slice ao n c, .int .i64 L, .int .i64 C] w fun e w' => e = pr (aAt l L C) ∧ w' = w := by
  cases hb : lnB l L with
  | true =>
    obtain ⟨k, rfl, hk⟩ := ln_yes hb
    by_cases hlow : C < -1
    · have HA : Hid (pr (aAt l (k : Int) C) = .returned (.tuple #[.int .i64 0, .int .i64 2])) := by
        unfold Hid pr aAt ans
        rw [hb, decide_eq_false (show ¬ (-1 ≤ C) by omega)]; rfl
      clear hb
      go_enter Tryz.func131, Tryz.ntmps131
      go_wp2_with (go_at_call 114; refine (startOf_yes ao n c k l _ hk HT).mono ?_; rintro e w' ⟨rfl, hw⟩; subst hw)
      go_ret2
      exact ⟨by rw [HA.out]; rfl, rfl⟩
    · have HA : Hid (pr (aAt l (k : Int) C) = .returned (.tuple #[.int .i64 (pc (sp l k) (en l (sp l k)) C), .int .i64 0])) := by
        unfold Hid pr aAt ans
        rw [hb, decide_eq_true (show -1 ≤ C by omega)]; rfl
      have hs : sp l k ≤ n := by have := sp_le hk; rw [HT.out.len] at this; exact this
      have he : en l (sp l k) ≤ n := by have := en_le (sp_le hk); rw [HT.out.len] at this; exact this
      have hse := en_ge l (sp l k)
      have hbig : (n : Int) ≤ 150000000000000 := by have := HT.out.big; omega
      have C1 := startOf_yes ao n c k l w hk HT
      have C2 := endFrom_any ao n c (sp l k) l w hs HT
      generalize en l (sp l k) = E at *
      generalize sp l k = S at *
      have hE : (E : Int) ≤ 150000000000000 := by omega
      have hSE : (S : Int) ≤ (E : Int) := by omega
      have hS0 : (0 : Int) ≤ (S : Int) := by omega
      have C1 := Hid.mk' C1
      have C2 := Hid.mk' C2
      clear hb
      by_cases hin : 0 ≤ C ∧ C < (E : Int) - S
      · obtain ⟨j, rfl⟩ := Int.eq_ofNat_of_zero_le hin.1
        have HP : Hid (pc S E (j : Int) = S + j) := by unfold Hid pc; rw [if_pos hin]; simp
        have hin1 := hin.1
        have hin2 := hin.2
        clear hin
        go_enter Tryz.func131, Tryz.ntmps131
        go_wp2_with (first | (go_at_call 114; refine C1.out.mono ?_; rintro e w' ⟨rfl, hw⟩; subst hw) | (go_at_call 121; refine C2.out.mono ?_; rintro e w' ⟨rfl, hw⟩; subst hw))
        go_ret2
        refine ⟨?_, rfl⟩
        rw [HA.out, HP.out]
        push_cast
        rfl
      · have HP : Hid (pc S E C = lb S E) := by unfold Hid pc; rw [if_neg hin]
        have hC1 : -1 ≤ C := by omega
        by_cases h0 : 0 ≤ C
        · have h1 : (E : Int) - S ≤ C := by omega
          clear hin
          go_enter Tryz.func131, Tryz.ntmps131
          go_wp2_with (first | (go_at_call 114; refine C1.out.mono ?_; rintro e w' ⟨rfl, hw⟩; subst hw) | (go_at_call 121; refine C2.out.mono ?_; rintro e w' ⟨rfl, hw⟩; subst hw) | (go_at_call 123; refine (lastByte_any S E _ hse hE).mono ?_; rintro e w' ⟨rfl, hw⟩; subst hw))
          go_ret2
          refine ⟨?_, rfl⟩
          rw [HA.out, HP.out]
          rfl
        · have h1 : C < 0 := by omega
          clear hin h0
          go_enter Tryz.func131, Tryz.ntmps131
          go_wp2_with (first | (go_at_call 114; refine C1.out.mono ?_; rintro e w' ⟨rfl, hw⟩; subst hw) | (go_at_call 121; refine C2.out.mono ?_; rintro e w' ⟨rfl, hw⟩; subst hw) | (go_at_call 123; refine (lastByte_any S E _ hse hE).mono ?_; rintro e w' ⟨rfl, hw⟩; subst hw))
          go_ret2
          refine ⟨?_, rfl⟩
          rw [HA.out, HP.out]
          rfl
  | false =>
    have HA : Hid (pr (aAt l L C) = .returned (.tuple #[.int .i64 0, .int .i64 2])) := by unfold Hid pr aAt ans; rw [hb]; rfl
    have hn : Hid (L < 0 ∨ (nl l : Int) < L) := ln_no hb
    clear hb
    go_enter Tryz.func131, Tryz.ntmps131
    go_wp2_with (go_at_call 114; refine (startOf_no ao n c L l _ h63 hn.out HT).mono ?_; rintro e w' ⟨rfl, hw⟩; subst hw)
    go_ret2
    exact ⟨by rw [HA.out]; rfl, rfl⟩
set_option maxHeartbeats 1000000 in
theorem lfirst_any (ao : Option Addr) (n c : Nat) (L : Int) (l : List UInt8) (w : World) (h63 : L ≤ 9223372036854775807) (HT : Hid (Tx w ao n c l)) :
    Calls Tryz.prog 93 #[.slice ao n c, .int .i64 L] w fun e w' => e = pr (aFirst l L) ∧ w' = w := by
  cases hb : lnB l L with
  | true =>
    obtain ⟨k, rfl, hk⟩ := ln_yes hb
    have HA : Hid (pr (aFirst l (k : Int)) = .returned (.tuple #[.int .i64 (fb l (lb (sp l k) (en l (sp l k))) (en l (sp l k) - sp l k) (sp l k)), .int .i64 0])) := by unfold Hid pr aFirst ans; rw [hb]; rfl
    have hs : sp l k ≤ n := by have := sp_le hk; rw [HT.out.len] at this; exact this
    have he : en l (sp l k) ≤ n := by have := en_le (sp_le hk); rw [HT.out.len] at this; exact this
    have hse := en_ge l (sp l k)
    have hbig : (n : Int) ≤ 150000000000000 := by have := HT.out.big; omega
    have C1 := startOf_yes ao n c k l w hk HT
    have C2 := endFrom_any ao n c (sp l k) l w hs HT
    generalize en l (sp l k) = E at *
    generalize sp l k = S at *
    have hE : (E : Int) ≤ 150000000000000 := by omega
    have C1 := Hid.mk' C1
    have C2 := Hid.mk' C2
    clear hb
    go_enter Tryz.func93, Tryz.ntmps93
    go_wp2_with (first | (go_at_call 114; refine C1.out.mono ?_; rintro e w' ⟨rfl, hw⟩; have hq := hw.symm; subst hq) | (go_at_call 121; refine C2.out.mono ?_; rintro e w' ⟨rfl, hw⟩; have hq := hw.symm; subst hq))
    go_loopw [9] (fun u wr => ∃ i : Nat, u = .int .i64 i ∧ S ≤ i ∧ i ≤ E ∧ fb l (lb S E) (E - S) S = fb l (lb S E) (E - i) i ∧ wr = w) (fun u _ => E - (intOf u).toNat)
    case atStart => exact ⟨S, rfl, Nat.le_refl _, hse, rfl, by first | rfl | trivial⟩
    case round =>
      obtain ⟨i, rfl, hSi, hiE, hfb, hw0⟩ := hrel
      have HF : Hid (fb l (lb S E) (E - S) S = fb l (lb S E) (E - i) i) := hfb
      clear hfb
      by_cases hlt : i < E
      · obtain ⟨g, o, rfl, hc⟩ := HT.out.at (by omega)
        have hc0 := hc i (by omega)
        have hi0 : (0 : Int) ≤ (i : Int) := by omega
        have hin : (i : Int) < (n : Int) := by omega
        have hiE' : (i : Int) < (E : Int) := by omega
        clear hc
        cases hbl : bl (at8 l i) with
        | true =>
          have HN : Hid (fb l (lb S E) (E - i) i = fb l (lb S E) (E - (i + 1)) (i + 1)) := by
            unfold Hid
            rw [show E - i = (E - (i + 1)) + 1 from by omega]
            conv => lhs; unfold fb
            rw [if_pos hbl]
          go_wp2_with (go_at_call 122; refine (isBlank_any (at8 l i) _).mono ?_; rintro e w' ⟨rfl, hw⟩; have hq := hw.symm; subst hq; rw [hbl])
          go_roundw
          case rel => exact ⟨i + 1, by go_num, by omega, by omega, by rw [HF.out, HN.out], by first | trivial | exact hw0⟩
          case measure => first | (simp [intOf]; done) | (simp [intOf]; omega)
        | false =>
          have HN : Hid (fb l (lb S E) (E - i) i = i) := by
            unfold Hid
            rw [show E - i = (E - (i + 1)) + 1 from by omega]
            conv => lhs; unfold fb
            rw [if_neg (by rw [hbl]; simp)]
          go_wp2_with (go_at_call 122; refine (isBlank_any (at8 l i) _).mono ?_; rintro e w' ⟨rfl, hw⟩; have hq := hw.symm; subst hq; rw [hbl])
          go_ret2
          exact ⟨by rw [HA.out, HF.out, HN.out]; rfl, by first | trivial | exact hw0⟩
      · obtain rfl : i = E := by omega
        have HN : Hid (fb l (lb S i) (i - i) i = lb S i) := by unfold Hid; rw [Nat.sub_self]; rfl
        go_wp2_with (go_at_call 123; refine (lastByte_any S i _ hse hE).mono ?_; rintro e w' ⟨rfl, hw⟩; have hq := hw.symm; subst hq)
        go_ret2
        exact ⟨by rw [HA.out, HF.out, HN.out]; rfl, by first | trivial | exact hw0⟩
  | false =>
    have HA : Hid (pr (aFirst l L) = .returned (.tuple #[.int .i64 0, .int .i64 2])) := by unfold Hid pr aFirst ans; rw [hb]; rfl
    have hn : Hid (L < 0 ∨ (nl l : Int) < L) := ln_no hb
    clear hb
    go_enter Tryz.func93, Tryz.ntmps93
    go_wp2_with (go_at_call 114; refine (startOf_no ao n c L l _ h63 hn.out HT).mono ?_; rintro e w' ⟨rfl, hw⟩; have hq := hw.symm; subst hq)
    go_ret2
    exact ⟨by rw [HA.out]; rfl, rfl⟩
end Go.Proofs.YtppefcnopkmhbaaGreatDoor

namespace Go.Proofs.YtppefcnopkmhbaaGreatDoor
open Go.RowKit

set_option maxRecDepth 8000
set_option maxHeartbeats 1000000 in
theorem refEnd_any (ao : Option Addr) (n c : Nat) (L : Int) (l : List UInt8) (w : World) (h63 : L ≤ 9223372036854775807) (HT : Hid (Tx w ao n c l)) :
    Calls Tryz.prog 44 #[.slice ao n c, .int .i64 L] w fun e w' => e = pr (aEnd l L) ∧ w' = w := by
  have hbig : (n : Int) ≤ 150000000000000 := by have := HT.out.big; omega
  have HL : Hid (l.length = n) := HT.out.len
  have C0 := refStart_any ao n c L l w h63 HT
  cases hb : lnB l L with
  | true =>
    obtain ⟨k, rfl, hk⟩ := ln_yes hb
    have HA : Hid (pr (aEnd l (k : Int)) = .returned (.tuple #[.int .i64 (en l (sp l k)), .int .i64 0])) := by unfold Hid pr aEnd ans; rw [hb]; rfl
    have HB : pr (aStart l (k : Int)) = .returned (.tuple #[.int .i64 (sp l k), .int .i64 0]) := by unfold pr aStart ans; rw [hb]; rfl
    rw [HB] at C0
    have C1 := Hid.mk' C0
    have hs : sp l k ≤ n := by have := sp_le hk; rw [HL.out] at this; exact this
    clear hb C0 HB
    generalize sp l k = S at *
    go_enter Tryz.func44, Tryz.ntmps44
    go_wp2_with (go_at_call 45; refine C1.out.mono ?_; rintro e w' ⟨rfl, hw⟩; have hq := hw.symm; subst hq)
    go_loopw [6] (fun u wr => ∃ i : Nat, u = .int .i64 i ∧ S ≤ i ∧ i ≤ en l S ∧ wr = w) (fun u _ => n - (intOf u).toNat)
    case atStart => exact ⟨S, rfl, Nat.le_refl _, en_ge l S, by first | rfl | trivial⟩
    case round =>
      obtain ⟨i, rfl, hSi, hiE, hw0⟩ := hrel
      have hE : en l S ≤ n := by have := en_le (t := l) (s := S) (by rw [HL.out]; exact hs); rw [HL.out] at this; exact this
      have hi0 : (0 : Int) ≤ (i : Int) := by omega
      by_cases hlt : i < n
      · obtain ⟨g, o, rfl, hc⟩ := HT.out.at (by omega)
        have hc0 := hc i hlt
        have hin : (i : Int) < (n : Int) := by omega
        clear hc
        cases h10 : (((at8 l i).toNat : Int) == 10) with
        | false =>
          have hne : (((at8 l i).toNat : Int) != 10) = true := by simp only [bne, h10]; rfl
          have HI : Hid (i < en l S) := by
            unfold Hid
            rcases Nat.lt_or_ge i (en l S) with h | h
            · exact h
            · exfalso
              have e0 : en l S = i := by omega
              have := en_edge (t := l) (s := S) (by rw [e0, HL.out]; exact hlt)
              rw [e0, le_of h10] at this
              simp at this
          go_wp2
          go_roundw
          case rel => exact ⟨i + 1, by go_num, by omega, HI.out, by first | trivial | exact hw0⟩
          case measure => first | (simp [intOf]; done) | (simp [intOf]; omega)
        | true =>
          have hne : (((at8 l i).toNat : Int) != 10) = false := by simp only [bne, h10]; rfl
          have HI : Hid (en l S = i) := by
            unfold Hid
            rcases Nat.lt_or_ge i (en l S) with h | h
            · exfalso
              have := en_none hSi h
              rw [le_of h10] at this
              simp at this
            · omega
          go_wp2
          go_ret2
          exact ⟨by rw [HA.out, HI.out]; rfl, by first | trivial | exact hw0⟩
      · have HI : Hid (en l S = i) := by unfold Hid; omega
        have hin : ¬ (i : Int) < (n : Int) := by omega
        go_wp2
        go_ret2
        exact ⟨by rw [HA.out, HI.out]; rfl, by first | trivial | exact hw0⟩
  | false =>
    have HA : Hid (pr (aEnd l L) = .returned (.tuple #[.int .i64 0, .int .i64 2])) := by unfold Hid pr aEnd ans; rw [hb]; rfl
    have HB : pr (aStart l L) = .returned (.tuple #[.int .i64 0, .int .i64 2]) := by unfold pr aStart ans; rw [hb]; rfl
    rw [HB] at C0
    have C1 := Hid.mk' C0
    clear hb C0 HB
    go_enter Tryz.func44, Tryz.ntmps44
    go_wp2_with (go_at_call 45; refine C1.out.mono ?_; rintro e w' ⟨rfl, hw⟩; have hq := hw.symm; subst hq)
    go_ret2
    exact ⟨by rw [HA.out]; rfl, rfl⟩
set_option maxHeartbeats 1000000 in
theorem refFirst_any (ao : Option Addr) (n c : Nat) (L : Int) (l : List UInt8) (w : World) (h63 : L ≤ 9223372036854775807) (HT : Hid (Tx w ao n c l)) :
    Calls Tryz.prog 53 #[.slice ao n c, .int .i64 L] w fun e w' => e = pr (aFirst l L) ∧ w' = w := by
  have C0 := refStart_any ao n c L l w h63 HT
  have D0 := refEnd_any ao n c L l w h63 HT
  cases hb : lnB l L with
  | true =>
    obtain ⟨k, rfl, hk⟩ := ln_yes hb
    have HA : Hid (pr (aFirst l (k : Int)) = .returned (.tuple #[.int .i64 (fb l (lb (sp l k) (en l (sp l k))) (en l (sp l k) - sp l k) (sp l k)), .int .i64 0])) := by unfold Hid pr aFirst ans; rw [hb]; rfl
    have HB : pr (aStart l (k : Int)) = .returned (.tuple #[.int .i64 (sp l k), .int .i64 0]) := by unfold pr aStart ans; rw [hb]; rfl
    have HD : pr (aEnd l (k : Int)) = .returned (.tuple #[.int .i64 (en l (sp l k)), .int .i64 0]) := by unfold pr aEnd ans; rw [hb]; rfl
    rw [HB] at C0
    rw [HD] at D0
    have he : en l (sp l k) ≤ n := by have := en_le (sp_le hk); rw [HT.out.len] at this; exact this
    have hse := en_ge l (sp l k)
    have hbig : (n : Int) ≤ 150000000000000 := by have := HT.out.big; omega
    clear HB HD
    generalize en l (sp l k) = E at *
    generalize sp l k = S at *
    have hE : (E : Int) ≤ 150000000000000 := by omega
    have C1 := Hid.mk' C0
    have C2 := Hid.mk' D0
    clear hb C0 D0
    go_enter Tryz.func53, Tryz.ntmps53
    go_wp2_with (first | (go_at_call 45; refine C1.out.mono ?_; rintro e w' ⟨rfl, hw⟩; have hq := hw.symm; subst hq) | (go_at_call 44; refine C2.out.mono ?_; rintro e w' ⟨rfl, hw⟩; have hq := hw.symm; subst hq))
    go_loopw [10] (fun u wr => ∃ i : Nat, u = .int .i64 i ∧ S ≤ i ∧ i ≤ E ∧ fb l (lb S E) (E - S) S = fb l (lb S E) (E - i) i ∧ wr = w) (fun u _ => E - (intOf u).toNat)
    case atStart => exact ⟨S, rfl, Nat.le_refl _, hse, rfl, by first | rfl | trivial⟩
    case round =>
      obtain ⟨i, rfl, hSi, hiE, hfb, hw0⟩ := hrel
      have HF : Hid (fb l (lb S E) (E - S) S = fb l (lb S E) (E - i) i) := hfb
      clear hfb
      by_cases hlt : i < E
      · obtain ⟨g, o, rfl, hc⟩ := HT.out.at (by omega)
        have hc0 := hc i (by omega)
        have hi0 : (0 : Int) ≤ (i : Int) := by omega
        have hin : (i : Int) < (n : Int) := by omega
        have hiE' : (i : Int) < (E : Int) := by omega
        clear hc
        have HN0 : Hid (bl (at8 l i) = (((at8 l i).toNat : Int) == 32 || ((at8 l i).toNat : Int) == 9)) := rfl
        cases h32 : (((at8 l i).toNat : Int) == 32) with
        | true =>
          have hne : (((at8 l i).toNat : Int) != 32) = false := by simp only [bne, h32]; rfl
          have HN : Hid (fb l (lb S E) (E - i) i = fb l (lb S E) (E - (i + 1)) (i + 1)) := by
            unfold Hid
            rw [show E - i = (E - (i + 1)) + 1 from by omega]
            conv => lhs; unfold fb
            rw [if_pos (by rw [HN0.out, h32]; rfl)]
          go_wp2
          go_roundw
          case rel => exact ⟨i + 1, by go_num, by omega, by omega, by rw [HF.out, HN.out], by first | trivial | exact hw0⟩
          case measure => first | (simp [intOf]; done) | (simp [intOf]; omega)
        | false =>
          have hne : (((at8 l i).toNat : Int) != 32) = true := by simp only [bne, h32]; rfl
          cases h9 : (((at8 l i).toNat : Int) == 9) with
          | true =>
            have hne9 : (((at8 l i).toNat : Int) != 9) = false := by simp only [bne, h9]; rfl
            have HN : Hid (fb l (lb S E) (E - i) i = fb l (lb S E) (E - (i + 1)) (i + 1)) := by
              unfold Hid
              rw [show E - i = (E - (i + 1)) + 1 from by omega]
              conv => lhs; unfold fb
              rw [if_pos (by rw [HN0.out, h32, h9]; rfl)]
            go_wp2
            go_roundw
            case rel => exact ⟨i + 1, by go_num, by omega, by omega, by rw [HF.out, HN.out], by first | trivial | exact hw0⟩
            case measure => first | (simp [intOf]; done) | (simp [intOf]; omega)
          | false =>
            have hne9 : (((at8 l i).toNat : Int) != 9) = true := by simp only [bne, h9]; rfl
            have HN : Hid (fb l (lb S E) (E - i) i = i) := by
              unfold Hid
              rw [show E - i = (E - (i + 1)) + 1 from by omega]
              conv => lhs; unfold fb
              rw [if_neg (by rw [HN0.out, h32, h9]; simp)]
            go_wp2
            go_ret2
            exact ⟨by rw [HA.out, HF.out, HN.out]; rfl, by first | trivial | exact hw0⟩
      · obtain rfl : i = E := by omega
        have HN : Hid (fb l (lb S i) (i - i) i = lb S i) := by unfold Hid; rw [Nat.sub_self]; rfl
        by_cases hlt2 : S < i
        · have hlt' : (S : Int) < i := by omega
          have HQ : Hid ((lb S i : Int) = (i : Int) - 1) := lb_lt hlt2
          go_wp2
          go_ret2
          exact ⟨by rw [HA.out, HF.out, HN.out, HQ.out]; rfl, by first | trivial | exact hw0⟩
        · have hlt' : ¬ (S : Int) < i := by omega
          have HQ : Hid (lb S i = S) := lb_eq (by omega)
          go_wp2
          go_ret2
          exact ⟨by rw [HA.out, HF.out, HN.out, HQ.out]; rfl, by first | trivial | exact hw0⟩
  | false =>
    have HA : Hid (pr (aFirst l L) = .returned (.tuple #[.int .i64 0, .int .i64 2])) := by unfold Hid pr aFirst ans; rw [hb]; rfl
    have HB : pr (aStart l L) = .returned (.tuple #[.int .i64 0, .int .i64 2]) := by unfold pr aStart ans; rw [hb]; rfl
    rw [HB] at C0
    have C1 := Hid.mk' C0
    clear hb C0 D0 HB
    go_enter Tryz.func53, Tryz.ntmps53
    go_wp2_with (go_at_call 45; refine C1.out.mono ?_; rintro e w' ⟨rfl, hw⟩; subst hw)
    go_ret2
    exact ⟨by rw [HA.out]; rfl, rfl⟩
end Go.Proofs.YtppefcnopkmhbaaGreatDoor
