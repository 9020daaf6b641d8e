/- Lists, Sml, Fn2, Big, Blk, Cln -/
import Derived.Test.YtppefcnopkmhbaaGreatDoorPa01
import Derived.Lib.BufferRead
import Derived.Deep.MidRow
import Derived.Deep.LoopGhost
import Derived.Deep.RegionHeld3
import Derived.Deep.CutRange
import Derived.Deep.RegionLaw
import Derived.Deep.QuietTactic
import Derived.OrdersHeld
namespace Go.Proofs.YtppefcnopkmhbaaGreatDoor
open Go.RowKit

theorem below_drewN (w : World) (n : Nat) : Below w.heap.size w (w.drewN n) := ⟨rfl, rfl, rfl, Nat.le_refl _, fun _ _ => rfl⟩
theorem conv_drew {W : World} {ao : Option Addr} {n c : Nat} {l : List UInt8} (h : Tx W ao n c l) : ∀ q, (convert 22 9 (.slice ao n c)).run Tryz.prog (W.drewN q) = .ok (.string ⟨l.toArray⟩) (W.drewN q) := fun q => conv_tx (h.keep (below_drewN W q))
theorem own_txl {W : World} {base n : Nat} {v : Value} {l : List UInt8} (h : W.ownsRow base 5 1 v n (bv l)) (hb : n ≤ 140737488355328) : ∃ ao c, v = .slice ao n c ∧ Tx W ao n c l := by
  have hl : l.length = n := by have := h.1; rw [bv_length] at this; omega
  rcases h.2 with ⟨rfl, rfl⟩ | ⟨g, cap, cur, rfl, h1, h2, h3, h4, h5, h6⟩
  · obtain rfl := List.eq_nil_of_length_eq_zero hl
    exact ⟨none, 0, rfl, tx_nil W⟩
  · refine ⟨_, cap, rfl, hl, h3, by omega, (fun h => by cases h), fun a ha j hj => ?_⟩
    obtain rfl : (⟨g, 0, none⟩ : Addr) = a := by simpa using ha
    rw [add_none, Nat.zero_add, h.cellAt j (by omega)]
    exact bv_at l j (by omega)

/-- what a list of lists holds at a place -/
structure Ls (W : World) (v : Value) (K : Nat) (f : Nat → List UInt8) : Prop where
  top : ∃ ao c, v = .slice ao K c
  each : ∀ i, i < K → ∃ g c ai ci, v = .slice (some ⟨g, 0, none⟩) K c ∧ W.cell? ⟨g, i, none⟩ = some (.slice ai (f i).length ci) ∧ Tx W ai (f i).length ci (f i)
theorem Ls.keep {W W' : World} {v : Value} {K : Nat} {f : Nat → List UInt8} (h : Ls W v K f) (hb : Below W.heap.size W W') : Ls W' v K f :=
  ⟨h.top, fun i hi => by
    obtain ⟨g, c, ai, ci, h1, h2, h3⟩ := h.each i hi
    exact ⟨g, c, ai, ci, h1, by rw [hb.cell (lt_of_cell h2)]; exact h2, h3.keep hb⟩⟩
theorem ls_of {w W : World} {v : Value} {D : List (Value × List UInt8)} {R : List Rw} {K : Nat} {f : Nat → List UInt8} (i0 : Nat) (h : Rws w W R) (hR : ∀ j, j ≤ D.length → R[i0 + j]? = (spl v D)[j]?) (hD : D.map (·.2) = (List.range K).map f) (hb : ∀ i, i < K → (f i).length ≤ 140737488355328) : Ls W v K f := by
  have hK : D.length = K := by have := congrArg List.length hD; simpa using this
  have h0 : R[i0]? = some (vrow v D) := by have := hR 0 (Nat.zero_le _); simpa [spl] using this
  have o0 := h.own _ _ h0
  refine ⟨?_, fun i hi => ?_⟩
  · obtain ⟨ao, c, e⟩ := own_shape o0
    exact ⟨ao, c, by rw [← hK]; exact e⟩
  · have hi' : i < D.length := by omega
    have h1 : R[i0 + (i + 1)]? = some (brow D[i]) := by rw [hR (i + 1) (by omega)]; simp [spl, hi']
    have o1 := h.own _ _ h1
    have e2 : D[i].2 = f i := by
      have := congrArg (fun L => L[i]?) hD
      simpa [hi', hi] using this
    have o1' : W.ownsRow w.heap.size 5 1 D[i].1 (f i).length (bv (f i)) := by rw [← e2]; exact o1
    obtain ⟨ai, ci, e3, h3⟩ := own_txl o1' (hb i hi)
    have o0' : W.ownsRow w.heap.size 22 1 v D.length (D.map (·.1)) := o0
    rcases o0'.2 with ⟨_, hz⟩ | ⟨g, cap, cur, e4, _⟩
    · omega
    · have hc : W.cell? ⟨g, i, none⟩ = some (.slice ai (f i).length ci) := by
        have hv : W.ownsRow w.heap.size 22 1 (.slice (some ⟨g, 0, none⟩) D.length cap) D.length (D.map (·.1)) := by rw [← e4]; exact o0'
        rw [hv.cellAt i (by omega), List.getElem?_map, List.getElem?_eq_getElem hi', ← e3]; rfl
      exact ⟨g, cap, ai, ci, by rw [← hK]; exact e4, hc, h3⟩

/-- the text up to the end of line number i - 1 -/
def jl (l : List UInt8) : Nat → List UInt8
  | 0 => []
  | i + 1 => l.take (en l (sp l i))
theorem sp_next {l : List UInt8} {i : Nat} (h : i + 1 ≤ nl l) : en l (sp l i) < l.length ∧ sp l (i + 1) = en l (sp l i) + 1 := by
  have hs := sp_st (t := l) (n := i) (by omega)
  have he : en l (sp l i) < l.length := by
    rcases Nat.lt_or_ge (en l (sp l i)) l.length with h1 | h1
    · exact h1
    · have := hs.last (by have := en_le hs.low'; omega); omega
  exact ⟨he, sp_eq (hs.next he)⟩
theorem jl_next {l : List UInt8} {i : Nat} (h : i ≤ nl l) : l.take (sp l i) ++ ln l i = jl l (i + 1) := by
  have h1 := en_ge l (sp l i)
  have h2 := sp_le h
  unfold ln jl
  rw [← List.take_add]
  congr 1; omega
theorem jl_end {l : List UInt8} {i : Nat} (h : i + 1 ≤ nl l) : jl l (i + 1) ++ [10] = l.take (sp l (i + 1)) := by
  obtain ⟨h1, h2⟩ := sp_next h
  unfold jl
  have h3 := en_edge (t := l) (s := sp l i) h1
  rw [le_ten, at8_eq h1] at h3
  rw [h2, List.take_succ_eq_append_getElem h1, eq_of_beq h3]
theorem jl_all (l : List UInt8) : jl l (nl l + 1) = l := by
  have hs := sp_st (t := l) (n := nl l) (Nat.le_refl _)
  show l.take (en l (sp l (nl l))) = l
  have he : en l (sp l (nl l)) = l.length := by
    rcases Nat.lt_or_ge (en l (sp l (nl l))) l.length with h1 | h1
    · have := (hs.next h1).low; omega
    · have := en_le hs.low'; omega
  rw [he, List.take_length]
theorem sp_zero (l : List UInt8) : sp l 0 = 0 := sp_eq (St.zero l)
end Go.Proofs.YtppefcnopkmhbaaGreatDoor

namespace Go.Proofs.YtppefcnopkmhbaaGreatDoor
open Go.RowKit

theorem bset {w W : World} (h : Below w.heap.size w W) {a : Addr} (v : Value) (ha : w.heap.size ≤ a.block) : Below w.heap.size w (W.setCell a v) := h.setCell ha v
/-- a range and an error -/
structure Rg where
  F : Int
  T : Int
  L : Bool
  D : Bool
  E : Int
/-- as a call gives it -/
def rt (r : Rg) : Ending := .returned (.tuple #[.agg #[.int .i64 r.F, .int .i64 r.T, .bool r.L, .bool r.D], .int .i64 r.E])
/-- refused -/
def rno : Rg := ⟨0, 0, false, false, 2⟩
/-- the range of lines -/
def whY (l : List UInt8) (s e : Nat) : Rg := if e < l.length then ⟨s, e + 1, true, false, 0⟩ else if 0 < s then ⟨s - 1, e, true, true, 0⟩ else ⟨s, e, true, false, 0⟩
def wh (l : List UInt8) (f t : Int) : Rg := if lnB l f && lnB l t && decide (f ≤ t) then whY l (sp l f.toNat) (en l (sp l t.toNat)) else rno
theorem ln_at {l : List UInt8} {k : Nat} (h : k ≤ nl l) : lnB l (k : Int) = true := decide_eq_true (by omega)

set_option maxRecDepth 8000
/-- is it one of the three kinds -/
def kdB (k : Int) : Bool := decide (k = 1 ∨ k = 2 ∨ k = 3)
/-- the number of an operator, 0 of none -/
def onl (t : List UInt8) : Nat := if t == [100] then 1 else if t == [99] then 2 else if t == [121] then 3 else if t == [103, 126] then 4 else if t == [103, 117] then 5 else if t == [103, 85] then 6 else if t == [62] then 7 else if t == [60] then 8 else 0
def opn (s : ByteArray) : Nat := onl s.toList
theorem op_rules (s : ByteArray) (k : Nat) (h : opn s = k) : (s.toList == [100]) = (k == 1) ∧ (s.toList == [99]) = (k == 2) ∧ (s.toList == [121]) = (k == 3) ∧ (s.toList == [103, 126]) = (k == 4) ∧ (s.toList == [103, 117]) = (k == 5) ∧ (s.toList == [103, 85]) = (k == 6) ∧ (s.toList == [62]) = (k == 7) ∧ (s.toList == [60]) = (k == 8) := by
  unfold opn at h
  generalize s.toList = t at *
  unfold onl at h
  by_cases ht : t ∈ [[100], [99], [121], [103, 126], [103, 117], [103, 85], [62], [60]]
  · simp only [List.mem_cons, List.not_mem_nil, or_false] at ht
    rcases ht with rfl | rfl | rfl | rfl | rfl | rfl | rfl | rfl <;> (subst h; decide)
  · simp only [List.mem_cons, List.not_mem_nil, or_false, not_or] at ht
    obtain ⟨h1, h2, h3, h4, h5, h6, h7, h8⟩ := ht
    simp only [beq_false_of_ne h1, beq_false_of_ne h2, beq_false_of_ne h3, beq_false_of_ne h4, beq_false_of_ne h5, beq_false_of_ne h6, beq_false_of_ne h7, beq_false_of_ne h8, Bool.false_eq_true, if_false] at h
    subst h
    exact ⟨beq_false_of_ne h1, beq_false_of_ne h2, beq_false_of_ne h3, beq_false_of_ne h4, beq_false_of_ne h5, beq_false_of_ne h6, beq_false_of_ne h7, beq_false_of_ne h8⟩
theorem ite_le8 {c : Prop} [Decidable c] {a b : Nat} (ha : a ≤ 8) (hb : b ≤ 8) : (if c then a else b) ≤ 8 := by split <;> assumption
theorem opn_le (s : ByteArray) : opn s ≤ 8 := by
  unfold opn onl
  repeat (refine ite_le8 (by omega) ?_)
  omega
/-- does it move lines to the right or the left -/
def shB (k : Nat) : Bool := k == 7 || k == 8
/-- is it an operator -/
def opB (k : Nat) : Bool := k != 0
theorem opn_cases {k : Nat} (h : k ≤ 8) : k = 0 ∨ k = 1 ∨ k = 2 ∨ k = 3 ∨ k = 4 ∨ k = 5 ∨ k = 6 ∨ k = 7 ∨ k = 8 := by omega
/-- is the byte at a place a line end -/
def leB (l : List UInt8) (i : Int) : Bool := decide (0 ≤ i ∧ i < l.length) && le (at8 l i.toNat)
set_option maxHeartbeats 1000000 in
theorem isLE_any (ao : Option Addr) (n c : Nat) (i : Int) (l : List UInt8) (w : World) (HT : Hid (Tx w ao n c l)) :
    Calls Tryz.prog 129 #[.slice ao n c, .int .i64 i] w fun e w' => e = .returned (.bool (leB l i)) ∧ w' = w := by
  have hlen := HT.out.len
  by_cases h0 : 0 ≤ i
  · by_cases h1 : i < n
    · obtain ⟨k, rfl⟩ := Int.eq_ofNat_of_zero_le h0
      obtain ⟨g, o, rfl, hc⟩ := HT.out.at (by omega)
      have hc0 := hc k (by omega)
      have hd : leB l (k : Int) = le (at8 l k) := by unfold leB; rw [decide_eq_true (by omega)]; rfl
      have hD := Hid.mk' hd
      clear hc hd hlen
      cases hb : le (at8 l k) with
      | true =>
        have h10 : (((at8 l k).toNat : Int) == 10) = true := hb
        rw [hb] at hD
        clear hb
        go_enter Tryz.func129, Tryz.ntmps129
        go_wp2
        go_ret
        exact ⟨by rw [hD.out]; rfl, rfl⟩
      | false =>
        have h10 : (((at8 l k).toNat : Int) == 10) = false := hb
        rw [hb] at hD
        clear hb
        go_enter Tryz.func129, Tryz.ntmps129
        go_wp2
        go_ret
        exact ⟨by rw [hD.out]; rfl, rfl⟩
    · have hd := Hid.mk' (show leB l i = false by unfold leB; rw [decide_eq_false (by omega)]; rfl)
      clear hlen
      go_enter Tryz.func129, Tryz.ntmps129
      go_wp2
      go_ret
      exact ⟨by rw [hd.out]; rfl, rfl⟩
  · have hd := Hid.mk' (show leB l i = false by unfold leB; rw [decide_eq_false (by omega)]; rfl)
    clear hlen
    go_enter Tryz.func129, Tryz.ntmps129
    go_wp2
    go_ret
    exact ⟨by rw [hd.out]; rfl, rfl⟩

end Go.Proofs.YtppefcnopkmhbaaGreatDoor

namespace Go.Proofs.YtppefcnopkmhbaaGreatDoor
open Go.RowKit

set_option maxRecDepth 8000
set_option maxHeartbeats 400000 in
theorem lastByte_any (s e : Nat) (w : World) (h : s ≤ e) (hb : (e : Int) ≤ 150000000000000) :
    Calls Tryz.prog 123 #[.int .i64 s, .int .i64 e] w fun x w' => x = .returned (.int .i64 (lb s e)) ∧ w' = w := by
  have hm : Hid ((max (s : Int) (e - 1)) = (lb s e : Int)) := by unfold Hid lb; omega
  go_enter Tryz.func123, Tryz.ntmps123
  go_wp2
  all_goals go_ret
  all_goals refine ⟨?_, rfl⟩
  all_goals (have hm := hm.out; first | (rw [← hm]; rfl) | (simp; omega) | skip)
set_option maxHeartbeats 400000 in
theorem isBlank_any (b : UInt8) (w : World) : Calls Tryz.prog 122 #[.int .u8 (b.toNat : Int)] w fun x w' => x = .returned (.bool (bl b)) ∧ w' = w := by
  have HB : Hid (bl b = (((b.toNat : Int) == 32) || ((b.toNat : Int) == 9))) := rfl
  generalize bl b = r at *
  generalize (b.toNat : Int) = z at *
  by_cases h1 : z = 32
  · subst h1
    go_enter Tryz.func122, Tryz.ntmps122
    go_wp2
    go_ret
    exact ⟨by rw [HB.out]; rfl, rfl⟩
  · by_cases h2 : z = 9
    · subst h2
      go_enter Tryz.func122, Tryz.ntmps122
      go_wp2
      go_ret
      exact ⟨by rw [HB.out]; rfl, rfl⟩
    · have e1 : (z == 32) = false := by simpa using h1
      have e2 : (z == 9) = false := by simpa using h2
      have HC : Hid (r = false) := by unfold Hid; rw [HB.out, e1, e2]; rfl
      clear HB
      go_enter Tryz.func122, Tryz.ntmps122
      go_wp2
      go_ret
      exact ⟨by rw [HC.out]; rfl, rfl⟩
set_option maxHeartbeats 1000000 in
theorem lat_any (ao : Option Addr) (n c : Nat) (L C : Int) (l : List UInt8) (w : World) (h63 : L ≤ 9223372036854775807) (hC : C ≤ 9223372036854775807) (HT : Hid (Tx w ao n c l)) :
    Calls Tryz.prog 131 #[.slice ao n c, .int .i64 L, .int .i64 C] w fun e w' => e = pr (aAt l L C) ∧ w' = w := by
  cases hb : lnB l L with
  | true =>
    obtain ⟨k, rfl, hk⟩ := ln_yes hb
    by_cases hlow : C < -1
    · have HA : Hid (pr (aAt l (k : Int) C) = .returned (.tuple #[.int .i64 0, .int .i64 2])) := by
        unfold Hid pr aAt ans
        rw [hb, decide_eq_false (show ¬ (-1 ≤ C) by omega)]; rfl
      clear hb
      go_enter Tryz.func131, Tryz.ntmps131
      go_wp2_with (go_at_call 114; refine (startOf_yes ao n c k l _ hk HT).mono ?_; rintro e w' ⟨rfl, hw⟩; subst hw)
      go_ret2
      exact ⟨by rw [HA.out]; rfl, rfl⟩
    · have HA : Hid (pr (aAt l (k : Int) C) = .returned (.tuple #[.int .i64 (pc (sp l k) (en l (sp l k)) C), .int .i64 0])) := by
        unfold Hid pr aAt ans
        rw [hb, decide_eq_true (show -1 ≤ C by omega)]; rfl
      have hs : sp l k ≤ n := by have := sp_le hk; rw [HT.out.len] at this; exact this
      have he : en l (sp l k) ≤ n := by have := en_le (sp_le hk); rw [HT.out.len] at this; exact this
      have hse := en_ge l (sp l k)
      have hbig : (n : Int) ≤ 150000000000000 := by have := HT.out.big; omega
      have C1 := startOf_yes ao n c k l w hk HT
      have C2 := endFrom_any ao n c (sp l k) l w hs HT
      generalize en l (sp l k) = E at *
      generalize sp l k = S at *
      have hE : (E : Int) ≤ 150000000000000 := by omega
      have hSE : (S : Int) ≤ (E : Int) := by omega
      have hS0 : (0 : Int) ≤ (S : Int) := by omega
      have C1 := Hid.mk' C1
      have C2 := Hid.mk' C2
      clear hb
      by_cases hin : 0 ≤ C ∧ C < (E : Int) - S
      · obtain ⟨j, rfl⟩ := Int.eq_ofNat_of_zero_le hin.1
        have HP : Hid (pc S E (j : Int) = S + j) := by unfold Hid pc; rw [if_pos hin]; simp
        have hin1 := hin.1
        have hin2 := hin.2
        clear hin
        go_enter Tryz.func131, Tryz.ntmps131
        go_wp2_with (first | (go_at_call 114; refine C1.out.mono ?_; rintro e w' ⟨rfl, hw⟩; subst hw) | (go_at_call 121; refine C2.out.mono ?_; rintro e w' ⟨rfl, hw⟩; subst hw))
        go_ret2
        refine ⟨?_, rfl⟩
        rw [HA.out, HP.out]
        push_cast
        rfl
      · have HP : Hid (pc S E C = lb S E) := by unfold Hid pc; rw [if_neg hin]
        have hC1 : -1 ≤ C := by omega
        by_cases h0 : 0 ≤ C
        · have h1 : (E : Int) - S ≤ C := by omega
          clear hin
          go_enter Tryz.func131, Tryz.ntmps131
          go_wp2_with (first | (go_at_call 114; refine C1.out.mono ?_; rintro e w' ⟨rfl, hw⟩; subst hw) | (go_at_call 121; refine C2.out.mono ?_; rintro e w' ⟨rfl, hw⟩; subst hw) | (go_at_call 123; refine (lastByte_any S E _ hse hE).mono ?_; rintro e w' ⟨rfl, hw⟩; subst hw))
          go_ret2
          refine ⟨?_, rfl⟩
          rw [HA.out, HP.out]
          rfl
        · have h1 : C < 0 := by omega
          clear hin h0
          go_enter Tryz.func131, Tryz.ntmps131
          go_wp2_with (first | (go_at_call 114; refine C1.out.mono ?_; rintro e w' ⟨rfl, hw⟩; subst hw) | (go_at_call 121; refine C2.out.mono ?_; rintro e w' ⟨rfl, hw⟩; subst hw) | (go_at_call 123; refine (lastByte_any S E _ hse hE).mono ?_; rintro e w' ⟨rfl, hw⟩; subst hw))
          go_ret2
          refine ⟨?_, rfl⟩
          rw [HA.out, HP.out]
          rfl
  | false =>
    have HA : Hid (pr (aAt l L C) = .returned (.tuple #[.int .i64 0, .int .i64 2])) := by unfold Hid pr aAt ans; rw [hb]; rfl
    have hn : Hid (L < 0 ∨ (nl l : Int) < L) := ln_no hb
    clear hb
    go_enter Tryz.func131, Tryz.ntmps131
    go_wp2_with (go_at_call 114; refine (startOf_no ao n c L l _ h63 hn.out HT).mono ?_; rintro e w' ⟨rfl, hw⟩; subst hw)
    go_ret2
    exact ⟨by rw [HA.out]; rfl, rfl⟩
set_option maxHeartbeats 1000000 in
theorem lfirst_any (ao : Option Addr) (n c : Nat) (L : Int) (l : List UInt8) (w : World) (h63 : L ≤ 9223372036854775807) (HT : Hid (Tx w ao n c l)) :
    Calls Tryz.prog 93 #[.slice ao n c, .int .i64 L] w fun e w' => e = pr (aFirst l L) ∧ w' = w := by
  cases hb : lnB l L with
  | true =>
    obtain ⟨k, rfl, hk⟩ := ln_yes hb
    have HA : Hid (pr (aFirst l (k : Int)) = .returned (.tuple #[.int .i64 (fb l (lb (sp l k) (en l (sp l k))) (en l (sp l k) - sp l k) (sp l k)), .int .i64 0])) := by unfold Hid pr aFirst ans; rw [hb]; rfl
    have hs : sp l k ≤ n := by have := sp_le hk; rw [HT.out.len] at this; exact this
    have he : en l (sp l k) ≤ n := by have := en_le (sp_le hk); rw [HT.out.len] at this; exact this
    have hse := en_ge l (sp l k)
    have hbig : (n : Int) ≤ 150000000000000 := by have := HT.out.big; omega
    have C1 := startOf_yes ao n c k l w hk HT
    have C2 := endFrom_any ao n c (sp l k) l w hs HT
    generalize en l (sp l k) = E at *
    generalize sp l k = S at *
    have hE : (E : Int) ≤ 150000000000000 := by omega
    have C1 := Hid.mk' C1
    have C2 := Hid.mk' C2
    clear hb
    go_enter Tryz.func93, Tryz.ntmps93
    go_wp2_with (first | (go_at_call 114; refine C1.out.mono ?_; rintro e w' ⟨rfl, hw⟩; have hq := hw.symm; subst hq) | (go_at_call 121; refine C2.out.mono ?_; rintro e w' ⟨rfl, hw⟩; have hq := hw.symm; subst hq))
    go_loopw [9] (fun u wr => ∃ i : Nat, u = .int .i64 i ∧ S ≤ i ∧ i ≤ E ∧ fb l (lb S E) (E - S) S = fb l (lb S E) (E - i) i ∧ wr = w) (fun u _ => E - (intOf u).toNat)
    case atStart => exact ⟨S, rfl, Nat.le_refl _, hse, rfl, by first | rfl | trivial⟩
    case round =>
      obtain ⟨i, rfl, hSi, hiE, hfb, hw0⟩ := hrel
      have HF : Hid (fb l (lb S E) (E - S) S = fb l (lb S E) (E - i) i) := hfb
      clear hfb
      by_cases hlt : i < E
      · obtain ⟨g, o, rfl, hc⟩ := HT.out.at (by omega)
        have hc0 := hc i (by omega)
        have hi0 : (0 : Int) ≤ (i : Int) := by omega
        have hin : (i : Int) < (n : Int) := by omega
        have hiE' : (i : Int) < (E : Int) := by omega
        clear hc
        cases hbl : bl (at8 l i) with
        | true =>
          have HN : Hid (fb l (lb S E) (E - i) i = fb l (lb S E) (E - (i + 1)) (i + 1)) := by
            unfold Hid
            rw [show E - i = (E - (i + 1)) + 1 from by omega]
            conv => lhs; unfold fb
            rw [if_pos hbl]
          go_wp2_with (go_at_call 122; refine (isBlank_any (at8 l i) _).mono ?_; rintro e w' ⟨rfl, hw⟩; have hq := hw.symm; subst hq; rw [hbl])
          go_roundw
          case rel => exact ⟨i + 1, by go_num, by omega, by omega, by rw [HF.out, HN.out], by first | trivial | exact hw0⟩
          case measure => first | (simp [intOf]; done) | (simp [intOf]; omega)
        | false =>
          have HN : Hid (fb l (lb S E) (E - i) i = i) := by
            unfold Hid
            rw [show E - i = (E - (i + 1)) + 1 from by omega]
            conv => lhs; unfold fb
            rw [if_neg (by rw [hbl]; simp)]
          go_wp2_with (go_at_call 122; refine (isBlank_any (at8 l i) _).mono ?_; rintro e w' ⟨rfl, hw⟩; have hq := hw.symm; subst hq; rw [hbl])
          go_ret2
          exact ⟨by rw [HA.out, HF.out, HN.out]; rfl, by first | trivial | exact hw0⟩
      · obtain rfl : i = E := by omega
        have HN : Hid (fb l (lb S i) (i - i) i = lb S i) := by unfold Hid; rw [Nat.sub_self]; rfl
        go_wp2_with (go_at_call 123; refine (lastByte_any S i _ hse hE).mono ?_; rintro e w' ⟨rfl, hw⟩; have hq := hw.symm; subst hq)
        go_ret2
        exact ⟨by rw [HA.out, HF.out, HN.out]; rfl, by first | trivial | exact hw0⟩
  | false =>
    have HA : Hid (pr (aFirst l L) = .returned (.tuple #[.int .i64 0, .int .i64 2])) := by unfold Hid pr aFirst ans; rw [hb]; rfl
    have hn : Hid (L < 0 ∨ (nl l : Int) < L) := ln_no hb
    clear hb
    go_enter Tryz.func93, Tryz.ntmps93
    go_wp2_with (go_at_call 114; refine (startOf_no ao n c L l _ h63 hn.out HT).mono ?_; rintro e w' ⟨rfl, hw⟩; have hq := hw.symm; subst hq)
    go_ret2
    exact ⟨by rw [HA.out]; rfl, rfl⟩
end Go.Proofs.YtppefcnopkmhbaaGreatDoor

namespace Go.Proofs.YtppefcnopkmhbaaGreatDoor
open Go.RowKit

theorem next_quarter {need old : Nat} (h : old < need) : Builtin.nextslicecap need old ≤ need + need / 4 + 256 := by
  unfold Builtin.nextslicecap
  split
  · omega
  · split
    · omega
    · rw [growBy_four]
      repeat' split
      all_goals omega

/-- append of whatever bytes there are, to a list that is owned -/
theorem append_big {w : World} {ops : Array Oper} {rest : List Oper} {o : Oper} {a : Act} {Q : Exit → Act → World → Prop} (hgd : o.guard = none) (s x : Operand)
    (ho : o.op = .call { callee := .builtin .append, args := #[s, x], argTypes := #[22, 22] }) (base : Nat)
    (v : Value) (n : Nat) (xs : List Value) (hs : a.eval s = v) (hown : w.ownsRow base 5 1 v n xs)
    (u : Value) (m : Nat) (news : List Value) (hx : a.eval x = u) (hsrc : Srv w u m news) (hl : news.length = m)
    (h1 : ∀ u ∈ news, u.oneCell' = true) (hb : n + m ≤ 150000000000000) (hm : m ≤ 140737488355328) (hbase : base ≤ w.heap.size)
    (h : ∀ v' w', w'.ownsRow base 5 1 v' (n + m) (xs ++ news) → w.grownBy w' v.ownBlock → (v'.ownBlock = v.ownBlock ∨ ∃ q, v'.ownBlock = some q ∧ w.heap.size ≤ q) → wpList Tryz.prog ops Q rest (a.put o.dst v') w') :
    wpList Tryz.prog ops Q (o :: rest) a w := by
  obtain ⟨i5, hi5, hz5, hs5, hb5⟩ := info_parts info5
  by_cases hsm : n + m ≤ 140737488355328
  · exact append_srv hgd s x 22 ho base 5 i5 (.int .u8 0) 1 1 Tryz.underlying22 hi5 hz5 hs5 hb5 rfl (by decide) v n xs hs hown u m news hx hsrc (by omega) h1 (by unfold maxLen; omega) (by omega) hbase h
  · have hx0 := hown.1
    rcases hsrc with ⟨hu, h0, h2⟩ | ⟨ad, c, hu, hcell⟩
    · subst hu h0 h2
      refine wpList_plain hgd fun K hK => ?_
      have hrun := run_append_owned_none (P := Tryz.prog) (w := w) base 22 o.type 5 i5 1 Tryz.underlying22 hi5 v n xs hown
      unfold Oper.wp
      simp [execOp, ho, resolve, invoke, builtin, hs, hx, hrun, Result.andThen]
      exact hK _ _ (h v w (by simpa using hown) ⟨rfl, rfl, rfl, Nat.le_refl _, fun _ _ _ => rfl⟩ (.inl rfl))
    · subst hu
      rcases hown.2 with ⟨hv, hn0⟩ | ⟨g, cap, cur, hv, hbg, hg, hnc, hcm, hcs, htake⟩
      · omega
      · subst hv
        by_cases hroom : n + m ≤ cap
        · refine wpList_append_fits w hgd s x 22 ho base 5 i5 1 Tryz.underlying22 hi5 hs5 g n cap xs hs hown ad m c news hx (by omega) hcell h1 hroom ?_
          intro w' h2 h3
          exact h _ w' h2 h3 (.inl rfl)
        · refine wpList_plain hgd fun K hK => ?_
          have hcells : ∀ j t, xs[j]? = some t → w.cell? ((⟨g, 0, none⟩ : Addr).add j) = some t := hown.cells rfl
          have hq := next_quarter (show cap < n + m by omega)
          have hr := run_append_grow (P := Tryz.prog) w 22 o.type 5 i5 (.int .u8 0) Tryz.underlying22 hi5 hz5 ⟨g, 0, none⟩ n cap xs (by rw [hs5]; omega) hcells ad m c news (by rw [hs5]; omega) hcell (by omega) (by omega) (by rw [hb5]; omega)
          have hge := grownCap_ge w (n + m) cap 5
          have hcm2 := grownCap_le_maxLen w (n + m) cap 5 (by unfold maxLen; omega)
          unfold Oper.wp execOp
          simp only [ho, resolve, invoke, builtin, Sem.run_bind, Sem.run_pure, Result.andThen_ok, List.map_toArray, List.map_cons, List.map_nil, hs, hx, hr]
          refine hK _ _ (h _ _ ⟨by simp; omega, .inr ⟨w.heap.size, _, _, rfl, hbase, heap_alloc_new w.drew _, hge, hcm2, ?_, ?_⟩⟩ ⟨rfl, rfl, rfl, by simp, fun k hk _ => heap_alloc_old w.drew _ hk⟩ (.inr ⟨w.heap.size, rfl, Nat.le_refl _⟩))
          · simp only [Array.size_append, List.size_toArray, size_zeroCells, Value.cells, hl]
            simp; omega
          · simp only [Array.toList_append, List.append_assoc]
            rw [← List.append_assoc]
            exact List.take_left' (by simp; omega)
end Go.Proofs.YtppefcnopkmhbaaGreatDoor

namespace Go.Proofs.YtppefcnopkmhbaaGreatDoor
open Go.RowKit

def Blk (W : World) (B : Nat) (e : Nat) (cs : Array Value) : Prop := W.heap[B]? = some (.cells cs e (0, 0))
theorem Blk.cell {W : World} {B e j : Nat} {cs : Array Value} {v : Value} (h : Blk W B e cs) (hj : cs[j]? = some v) : W.cell? ⟨B, j, none⟩ = some v := by
  rw [cell_of_row W B j cs e (0, 0) h]; exact hj
theorem Blk.frozen {W : World} {B e : Nat} {cs : Array Value} (h : Blk W B e cs) (j : Nat) : W.frozen? ⟨B, j, none⟩ = false := frozen_of_row W B j cs e h
theorem Blk.lt {W : World} {B e : Nat} {cs : Array Value} (h : Blk W B e cs) : B < W.heap.size := (Array.getElem?_eq_some_iff.1 h).1
theorem Blk.keep {W W' : World} {B e : Nat} {cs : Array Value} (h : Blk W B e cs) (hb : Below W.heap.size W W') : Blk W' B e cs := by unfold Blk; rw [hb.block B h.lt]; exact h
theorem Blk.new (W : World) (e : Nat) (cs : Array Value) : Blk (W.alloc (.cells cs e)) W.heap.size e cs := heap_alloc_new W _
theorem Blk.set {W : World} {B e j : Nat} {cs : Array Value} (h : Blk W B e cs) (v : Value) : Blk (W.setCell ⟨B, j, none⟩ v) B e (cs.setIfInBounds j v) := heap_setCell_same _ _ _ _ _ _ h
theorem Blk.off {W : World} {B B' e j : Nat} {cs : Array Value} (h : Blk W B' e cs) (hne : B' ≠ B) (v : Value) : Blk (W.setCell ⟨B, j, none⟩ v) B' e cs := by
  unfold Blk; rw [heap_setCell_other _ _ _ _ hne]; exact h
theorem Blk.grown {W W' : World} {B e : Nat} {cs : Array Value} {r : Option Nat} (h : Blk W B e cs) (hg : W.grownBy W' r) (hne : some B ≠ r) : Blk W' B e cs := by
  unfold Blk; rw [hg.block B h.lt hne]; exact h

/-- cells stored one behind the other -/
theorem below_setCells {a : World} {n B : Nat} (hb : n ≤ B) : ∀ (vs : List Value) (o : Nat) {W : World}, Below n a W → Below n a (W.setCells B o vs)
  | [], _, _, h => h
  | v :: r, o, _, h => below_setCells hb r (o + 1) (h.setCell hb v)
theorem blk_setCells_off {B B' e : Nat} {cs : Array Value} (hne : B' ≠ B) : ∀ (vs : List Value) (o : Nat) {W : World}, Blk W B' e cs → Blk (W.setCells B o vs) B' e cs
  | [], _, _, h => h
  | v :: r, o, _, h => blk_setCells_off hne r (o + 1) (h.off hne v)
theorem blk_setCells {B e : Nat} : ∀ (vs pre old post : List Value) {W : World}, old.length = vs.length → Blk W B e (pre ++ old ++ post).toArray → Blk (W.setCells B pre.length vs) B e (pre ++ vs ++ post).toArray
  | [], pre, old, post, W, hl, h => by
    have : old = [] := List.eq_nil_of_length_eq_zero hl
    subst this; exact h
  | v :: r, pre, [], post, W, hl, h => by cases hl
  | v :: r, pre, x :: old, post, W, hl, h => by
    have h1 : Blk (W.setCell ⟨B, pre.length, none⟩ v) B e ((pre ++ [v]) ++ old ++ post).toArray := by
      have := h.set (j := pre.length) v
      simpa [List.setIfInBounds_toArray, List.set_append] using this
    have h2 := blk_setCells r (pre ++ [v]) old post (by simpa using hl) h1
    rw [List.length_append] at h2
    simpa [World.setCells] using h2
theorem blk_range {W : World} {B e : Nat} {pre mid post : List Value} (h : Blk W B e (pre ++ mid ++ post).toArray) : W.rangeAt B pre.length mid := by
  intro j v hv
  refine h.cell ?_
  rw [List.getElem?_toArray, List.append_assoc, List.getElem?_append_right (by omega), show pre.length + j - pre.length = j by omega, List.getElem?_append_left (List.getElem?_eq_some_iff.1 hv).1]
  exact hv
theorem blk_there {W : World} {B e : Nat} {pre mid post : List Value} (h : Blk W B e (pre ++ mid ++ post).toArray) : W.there B pre.length mid.length := by
  intro j hj
  refine ⟨?_, h.frozen _⟩
  have := blk_range h j mid[j] (List.getElem?_eq_getElem hj)
  rw [this]; rfl


section
variable {P : Program} {ops : Array Oper} {Q : Exit → Act → World → Prop} {md : Region.Mode} {S : World → Prop}
/-- whichever of these comes up -/
def AllH (P : Program) (md : Region.Mode) (ops : Array Oper) (Q : Exit → Act → World → Prop) (S : World → Prop) (fuel : Nat) (listed : Array Bool) (a : Act) (w : World) (rs : List Nat) : Prop :=
  ∀ i ∈ rs, wpOp P ops Q i (fun a' w' => S w' ∧ wpAnyH P md ops Q S fuel (listed.setIfInBounds i true) a' w') a w
theorem AllH.nil {fuel : Nat} {listed : Array Bool} {a : Act} {w : World} : AllH P md ops Q S fuel listed a w [] := fun _ h => by cases h
theorem AllH.cons {fuel : Nat} {listed : Array Bool} {a : Act} {w : World} {i : Nat} {o : Oper} {rs : List Nat} (ho : ops[i]? = some o)
    (h : ∀ K' : Act → World → Prop, (∀ a w, (S w ∧ wpAnyH P md ops Q S fuel (listed.setIfInBounds i true) a w) → K' a w) → if Region.wanted o (yielded ops a.tmps) = true then Oper.wp P o a w K' Q else K' (a.put o.dst undef) w)
    (hs : AllH P md ops Q S fuel listed a w rs) : AllH P md ops Q S fuel listed a w (i :: rs) := fun j hj => by
  rcases List.mem_cons.1 hj with rfl | hj
  · exact wpOp_step ho h
  · exact hs j hj
end
theorem grown_set (w : World) (b j : Nat) (v : Value) : w.grownBy (w.setCell ⟨b, j, none⟩ v) (some b) :=
  ⟨rfl, rfl, rfl, by simp, fun k _ hk => heap_setCell_other _ _ _ _ (fun e => hk (by rw [e]))⟩
theorem grown_setCells {B : Nat} : ∀ (vs : List Value) (o : Nat) (w : World), w.grownBy (w.setCells B o vs) (some B)
  | [], _, _ => ⟨rfl, rfl, rfl, Nat.le_refl _, fun _ _ _ => rfl⟩
  | v :: r, o, w => (grown_set w B o v).trans (grown_setCells r (o + 1) _)
theorem cell_keep {W W' : World} {a : Addr} {v : Value} (h : W.cell? a = some v) (hb : Below W.heap.size W W') : W'.cell? a = some v := by rw [hb.cell (lt_of_cell h)]; exact h
end Go.Proofs.YtppefcnopkmhbaaGreatDoor

namespace Go.Proofs.YtppefcnopkmhbaaGreatDoor
open Go.RowKit

set_option maxRecDepth 8000
/-- a new list of bytes -/
def NewP (n : Nat) (l : List UInt8) (w : World) (e : Ending) (w' : World) : Prop := ∃ v, e = .returned v ∧ w'.ownsRow w.heap.size 5 1 v n (bv l) ∧ Below w.heap.size w w'
theorem own_tx {w : World} {base n : Nat} {v : Value} {l : List UInt8} (h : w.ownsRow base 5 1 v n (bv l)) (hb : n ≤ 150000000000000) : ∃ ao c, v = .slice ao n c ∧ Tx w ao n c l := by
  have hl : l.length = n := by have := h.1; rw [bv_length] at this; omega
  rcases h.2 with ⟨rfl, rfl⟩ | ⟨g, cap, cur, rfl, h1, h2, h3, h4, h5, h6⟩
  · have : l = [] := List.eq_nil_of_length_eq_zero hl
    subst this
    exact ⟨none, 0, rfl, tx_nil w⟩
  · refine ⟨_, cap, rfl, hl, h3, hb, (fun h => by cases h), fun a ha j hj => ?_⟩
    obtain rfl : (⟨g, 0, none⟩ : Addr) = a := by simpa using ha
    rw [add_none, Nat.zero_add, h.cellAt j (by omega)]
    exact bv_at l j (by omega)
set_option maxHeartbeats 1000000 in
theorem clone_any (ao : Option Addr) (n c : Nat) (l : List UInt8) (w : World) (hb : n ≤ 140737488355328) (h : Hid (Tx w ao n c l)) :
    Calls Tryz.prog 46 #[.slice ao n c] w fun e w' => NewP n l w e w' := by
  have hlen := Hid.mk' h.out.len
  have q22 : ∀ (w : World) (a : Option Addr) (n c n' c' : Nat), (binOp .eql 22 (.slice a n c) (.slice none n' c')).run Tryz.prog w = .ok (.bool a.isNone) w := fun w a n c n' c' => Lib.run_eql_slice_nil w _ _ a n c n' c' Tryz.underlying22
  cases ao with
  | none =>
    obtain ⟨rfl, rfl, rfl⟩ := h.out.none
    go_enter Tryz.func46, Tryz.ntmps46
    go_wp2
    go_ret
    exact ⟨_, rfl, ⟨rfl, .inl ⟨rfl, rfl⟩⟩, Below.refl _ _⟩
  | some a =>
    go_enter Tryz.func46, Tryz.ntmps46
    go_wp2_with (at_builtin; refine append_big rfl (.tmp 5) (.tmp 6) rfl w.heap.size (.slice (some ⟨w.heap.size, 0, none⟩) 0 0) 0 [] rfl (World.ownsRow_made w #[] 0 (Nat.le_refl _) (Nat.zero_le _) rfl) (.slice (some a) n c) n (bv l) rfl ((h.out.keep (bAlloc (Below.refl _ _) _)).srv) (by rw [bv_length]; exact hlen.out) (bv_one l) (by omega) (by omega) (by simp) ?_)
    intro v1 w1 hown hgrow _
    have HW1 : Hid (w1.ownsRow w.heap.size 5 1 v1 n (bv l)) := by unfold Hid; simpa using hown
    have L1 : Hid (Below w.heap.size w w1) := ((Below.refl _ w).alloc (Nat.le_refl _) _).grown hgrow (by simp) (by intro k hk; simp [Value.ownBlock] at hk; omega)
    clear hown hgrow
    go_wp2
    go_ret
    exact ⟨v1, rfl, HW1.out, L1.out⟩
theorem equal_any (a1 : Option Addr) (n1 c1 : Nat) (l1 : List UInt8) (a2 : Option Addr) (n2 c2 : Nat) (l2 : List UInt8) (w : World) (h1 : Hid (Tx w a1 n1 c1 l1)) (h2 : Hid (Tx w a2 n2 c2 l2)) :
    Calls Tryz.prog 79 #[.slice a1 n1 c1, .slice a2 n2 c2] w fun e w' => e = .returned (.bool (l1 == l2)) ∧ w' = w := by
  have e1 := conv_tx h1.out
  have e2 := conv_tx h2.out
  generalize hq : (l1 == l2) = q
  go_enter Tryz.func79, Tryz.ntmps79
  go_wp2
  go_ret
  exact ⟨by simp [← hq], rfl⟩
end Go.Proofs.YtppefcnopkmhbaaGreatDoor
