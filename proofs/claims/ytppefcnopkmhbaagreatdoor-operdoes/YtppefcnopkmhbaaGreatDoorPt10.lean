/- Tk0, Bys, Op2, Lpr, Tkffn -/
import Derived.Test.YtppefcnopkmhbaaGreatDoorPt09
import Derived.Test.YtppefcnopkmhbaaGreatDoorPt01
import Derived.Test.YtppefcnopkmhbaaGreatDoorPt07
namespace Go.Proofs.YtppefcnopkmhbaaGreatDoor
open Go.RowKit

set_option maxRecDepth 8000
/-- is it a range that Take takes -/
def rgB (l : List UInt8) (F T : Int) (L D : Bool) : Bool := decide (0 ≤ F ∧ F ≤ T ∧ T ≤ l.length) && (!(L && D) || leB l F)
/-- the bytes of a range from f to t, d: without the first -/
def tkb (l : List UInt8) (f t : Nat) (d : Bool) : List UInt8 := (l.drop (f + d.toNat)).take (t - (f + d.toNat))
/-- does a text lack a line end -/
def lack (b : List UInt8) : Bool := !leB b ((b.length : Int) - 1)
/-- what Take tells -/
def tk (l : List UInt8) (f t : Nat) (L D : Bool) : List UInt8 := if (L && (D || lack (tkb l f t (L && D)))) = true then tkb l f t (L && D) ++ [10] else tkb l f t (L && D)
/-- a register as a call gives it -/
def tr (s L : Bool) (v : Value) (e : Int) : Ending := .returned (.tuple #[.agg #[.bool s, .bool L, v], .int .i64 e])
theorem own_set {W : World} {base e s n k j : Nat} {v u : Value} {xs : List Value} (h : W.ownsRow base e s v n xs) (hk : k < base) : (W.setCell ⟨k, j, none⟩ u).ownsRow base e s v n xs := by
  refine ⟨h.1, ?_⟩
  rcases h.2 with h0 | ⟨g, cap, cur, rfl, hb', hg, rest⟩
  · exact .inl h0
  · exact .inr ⟨g, cap, cur, rfl, hb', by rw [heap_setCell_other _ _ _ _ (show g ≠ k by omega)]; exact hg, rest⟩
theorem bset3' {w W : World} (h : Below w.heap.size w W) (a b c : Value) : Below w.heap.size w (((W.setCell ⟨w.heap.size + 1, 0, none⟩ a).setCell ⟨w.heap.size + 1, 1, none⟩ b).setCell ⟨w.heap.size + 1, 2, none⟩ c) :=
  bset (bset (bset h _ (Nat.le_succ _)) _ (Nat.le_succ _)) _ (Nat.le_succ _)
theorem own_set3 {W : World} {b e s n : Nat} {v x y z : Value} {xs : List Value} (h : W.ownsRow (b + 2) e s v n xs) : (((W.setCell ⟨b + 1, 0, none⟩ x).setCell ⟨b + 1, 1, none⟩ y).setCell ⟨b + 1, 2, none⟩ z).ownsRow b e s v n xs :=
  own_lower (own_set (own_set (own_set h (by omega)) (by omega)) (by omega)) (by omega)
theorem bAlloc' {n : Nat} {w : World} (h : n ≤ w.heap.size) (o : Obj) : Below n w (w.alloc o) := (Below.refl n w).alloc h o
/-- the boxed range and the empty register, behind what is done -/
theorem tk_cells {w W : World} {F T : Int} {L D : Bool} (hb : Below (w.heap.size + 2) ((w.alloc (.cells #[.int .i64 F, .int .i64 T, .bool L, .bool D] 28)).alloc (.cells #[.bool false, .bool false, .slice none 0 0] 33)) W) :
    W.cell? ⟨w.heap.size, 0, none⟩ = some (.int .i64 F) ∧ W.cell? ⟨w.heap.size, 1, none⟩ = some (.int .i64 T) ∧ W.cell? ⟨w.heap.size, 2, none⟩ = some (.bool L) ∧ W.cell? ⟨w.heap.size, 3, none⟩ = some (.bool D) ∧ W.cell? ⟨w.heap.size + 1, 0, none⟩ = some (.bool false) ∧ W.cell? ⟨w.heap.size + 1, 1, none⟩ = some (.bool false) ∧ W.cell? ⟨w.heap.size + 1, 2, none⟩ = some (.slice none 0 0) ∧ W.frozen? ⟨w.heap.size + 1, 0, none⟩ = false ∧ W.frozen? ⟨w.heap.size + 1, 1, none⟩ = false ∧ W.frozen? ⟨w.heap.size + 1, 2, none⟩ = false ∧ w.heap.size + 1 < W.heap.size := by
  have e2 : W.heap[w.heap.size + 1]? = some (.cells #[.bool false, .bool false, .slice none 0 0] 33) := by
    rw [hb.block _ (by omega)]
    have := heap_alloc_new (w.alloc (.cells #[.int .i64 F, .int .i64 T, .bool L, .bool D] 28)) (.cells #[.bool false, .bool false, .slice none 0 0] 33)
    rwa [World.size_alloc] at this
  have e1 : W.heap[w.heap.size]? = some (.cells #[.int .i64 F, .int .i64 T, .bool L, .bool D] 28) := by
    rw [hb.block _ (by omega)]
    have h1 := heap_alloc_new w (.cells #[.int .i64 F, .int .i64 T, .bool L, .bool D] 28)
    have h2 := (bAlloc (Below.refl _ (w.alloc (.cells #[.int .i64 F, .int .i64 T, .bool L, .bool D] 28))) (.cells #[.bool false, .bool false, .slice none 0 0] 33)).block w.heap.size (by simp)
    rw [h2]; exact h1
  have hs := (Array.getElem?_eq_some_iff.1 e2).1
  refine ⟨?_, ?_, ?_, ?_, ?_, ?_, ?_, frozen_of_row _ _ _ _ _ e2, frozen_of_row _ _ _ _ _ e2, frozen_of_row _ _ _ _ _ e2, hs⟩
  · rw [cell_of_row _ _ _ _ _ _ e1]; rfl
  · rw [cell_of_row _ _ _ _ _ _ e1]; rfl
  · rw [cell_of_row _ _ _ _ _ _ e1]; rfl
  · rw [cell_of_row _ _ _ _ _ _ e1]; rfl
  · rw [cell_of_row _ _ _ _ _ _ e2]; rfl
  · rw [cell_of_row _ _ _ _ _ _ e2]; rfl
  · rw [cell_of_row _ _ _ _ _ _ e2]; rfl
end Go.Proofs.YtppefcnopkmhbaaGreatDoor

namespace Go.Proofs.YtppefcnopkmhbaaGreatDoor
open Go.RowKit

set_option maxRecDepth 8000
/-- is there a line end -/
def hasL (l : List UInt8) : Bool := decide (l.findIdx le < l.length)
theorem ten_tx {W : World} {B : Nat} (h : Blk W B 5 #[.int .u8 10]) : Tx W (some ⟨B, 0, none⟩) 1 1 [10] :=
  ⟨rfl, by omega, by omega, (fun e => by cases e), fun a ha j hj => by
    injection ha with ha; subst ha
    obtain rfl : j = 0 := by omega
    exact h.cell rfl⟩
set_option maxHeartbeats 1000000 in
theorem bindex_any (ao : Option Addr) (n c B : Nat) (l : List UInt8) (w : World) (h : Hid (Tx w ao n c l)) (hb : w.cell? ⟨B, 0, none⟩ = some (.int .u8 10)) :
    Calls Tryz.prog 115 #[.slice ao n c, .slice (some ⟨B, 0, none⟩) 1 1] w fun e w' => e = .returned (.int .i64 (ixI l n)) ∧ w' = w := by
  have C := Hid.mk' (index_any ao n c l w h)
  go_enter Tryz.func115, Tryz.ntmps115
  go_wp2_with (first | (go_at_call 134; refine C.out.mono ?_; rintro e w' ⟨rfl, hw⟩; subst hw) | fail)
  go_ret
  exact ⟨rfl, rfl⟩
theorem ixI_has {n : Nat} {l : List UInt8} (hl : l.length = n) : ixI l n = -1 ∧ hasL l = false ∨ (∃ k : Nat, ixI l n = (k : Int)) ∧ hasL l = true := by
  unfold ixI hasL
  rw [hl]
  by_cases h : l.findIdx le < n
  · exact .inr ⟨⟨_, if_pos h⟩, decide_eq_true h⟩
  · exact .inl ⟨if_neg h, decide_eq_false h⟩
set_option maxHeartbeats 1000000 in
theorem contains_any (ao : Option Addr) (n c B : Nat) (l : List UInt8) (w : World) (h : Hid (Tx w ao n c l)) (hb : w.cell? ⟨B, 0, none⟩ = some (.int .u8 10)) :
    Calls Tryz.prog 86 #[.slice ao n c, .slice (some ⟨B, 0, none⟩) 1 1] w fun e w' => e = .returned (.bool (hasL l)) ∧ w' = w := by
  have C := bindex_any ao n c B l w h hb
  rcases ixI_has h.out.len with ⟨e1, e2⟩ | ⟨⟨k, e1⟩, e2⟩
  · rw [e1] at C
    rw [e2]
    have C' := Hid.mk' C
    clear C e1 e2
    go_enter Tryz.func86, Tryz.ntmps86
    go_wp2_with (first | (go_at_call 115; refine C'.out.mono ?_; rintro e w' ⟨rfl, hw⟩; subst hw) | fail)
    go_ret
    exact ⟨rfl, rfl⟩
  · rw [e1] at C
    rw [e2]
    have C' := Hid.mk' C
    have h1 : ((k : Int) != -1) = true := bne_iff_ne.2 (by omega)
    have h2 : ¬ ((k : Int) = -1) := by omega
    clear C e1 e2
    go_enter Tryz.func86, Tryz.ntmps86
    go_wp2_with (first | (go_at_call 115; refine C'.out.mono ?_; rintro e w' ⟨rfl, hw⟩; subst hw) | fail)
    go_ret
    exact ⟨rfl, rfl⟩
theorem lack_eq (l : List UInt8) (h : l ≠ []) : (l.drop (l.length - 1) == [10]) = !lack l := by
  have hl : 0 < l.length := List.length_pos_iff.2 h
  have e : l.drop (l.length - 1) = [at8 l (l.length - 1)] := by
    apply List.ext_getElem?
    intro j
    rw [List.getElem?_drop]
    cases j with
    | zero => rw [Nat.add_zero, List.getElem?_eq_getElem (by omega), at8_eq (by omega)]; rfl
    | succ j => rw [List.getElem?_eq_none (by omega)]; rfl
  rw [e]
  unfold lack leB
  rw [decide_eq_true (show (0 : Int) ≤ (l.length : Int) - 1 ∧ (l.length : Int) - 1 < (l.length : Int) by omega), Bool.true_and, Bool.not_not, show ((l.length : Int) - 1).toNat = l.length - 1 by omega, le_ten]
  simp
theorem lack_nil : lack [] = true := by decide +kernel
set_option maxHeartbeats 1000000 in
theorem suffix_any (ao : Option Addr) (n c B : Nat) (l : List UInt8) (w : World) (h : Hid (Tx w ao n c l)) (hb : Hid (Blk w B 5 #[.int .u8 10])) :
    Calls Tryz.prog 47 #[.slice ao n c, .slice (some ⟨B, 0, none⟩) 1 1] w fun e w' => e = .returned (.bool (!lack l)) ∧ w' = w := by
  have hl := h.out.len
  by_cases h0 : n = 0
  · subst h0
    obtain rfl : l = [] := List.eq_nil_of_length_eq_zero hl
    rw [lack_nil]
    go_enter Tryz.func47, Tryz.ntmps47
    go_wp2
    go_ret
    exact ⟨rfl, rfl⟩
  · have hb9 := h.out.big
    have h1 : (1 : Int) ≤ (n : Int) := by omega
    have hw : IntKind.i64.wrap ((n : Int) - 1) = ((n - 1 : Nat) : Int) := by rw [IntKind.wrap_i64]; omega
    obtain ⟨a3, c3, hs3, hT3⟩ := sl_l h.out (lo := n - 1) (z := ((n - 1 : Nat) : Int)) (by omega) rfl
    have hq : n - (n - 1) = 1 := by omega
    rw [hq] at hs3 hT3
    have C := equal_any a3 1 c3 (l.drop (n - 1)) (some ⟨B, 0, none⟩) 1 1 [10] w hT3 (ten_tx hb.out)
    rw [← hl, lack_eq l (by intro e; rw [e] at hl; simp at hl; omega)] at C
    have C' := Hid.mk' C
    generalize (!lack l) = q at *
    clear C hT3 h0 h
    go_enter Tryz.func47, Tryz.ntmps47
    go_wp2_with (first | (go_at_call 79; refine C'.out.mono ?_; rintro e w' ⟨rfl, hw⟩; subst hw) | fail)
    go_ret
    exact ⟨rfl, rfl⟩
end Go.Proofs.YtppefcnopkmhbaaGreatDoor

namespace Go.Proofs.YtppefcnopkmhbaaGreatDoor
open Go.RowKit

set_option maxRecDepth 8000
/-- one step at a line's head -/
def st8 (p : List UInt8) : Nat := if p.take 1 = [9] then 1 else ld 32 (p.take 8)
theorem st8_le (p : List UInt8) : st8 p ≤ p.length ∧ st8 p ≤ 8 := by
  unfold st8
  split
  · rename_i h
    have := congrArg List.length h
    rw [List.length_take] at this
    simp at this
    omega
  · have := ld_le 32 (p.take 8)
    rw [List.length_take] at this
    omega
/-- so many steps -/
def mgn (p : List UInt8) : Nat → Nat → Nat
  | 0, n => n
  | k + 1, n => if st8 (p.drop n) = 0 then n else mgn p k (n + st8 (p.drop n))
theorem mgn_le (p : List UInt8) : ∀ k n, n ≤ p.length → n ≤ mgn p k n ∧ mgn p k n ≤ p.length
  | 0, n, h => ⟨Nat.le_refl n, h⟩
  | k + 1, n, h => by
    unfold mgn
    split
    · exact ⟨Nat.le_refl n, h⟩
    · have h1 := (st8_le (p.drop n)).1
      rw [List.length_drop] at h1
      have := mgn_le p k (n + st8 (p.drop n)) (by omega)
      omega
theorem nine_tx {W : World} {B : Nat} (h : Blk W B 5 #[.int .u8 9]) : Tx W (some ⟨B, 0, none⟩) 1 1 [9] :=
  ⟨rfl, by omega, by omega, (fun e => by cases e), fun a ha j hj => by
    injection ha with ha; subst ha
    obtain rfl : j = 0 := by omega
    exact h.cell rfl⟩
set_option maxHeartbeats 2000000 in
theorem step_any (ao : Option Addr) (n c : Nat) (l : List UInt8) (w : World) (HT : Hid (Tx w ao n c l)) :
    Calls Tryz.prog 132 #[.slice ao n c] w fun e w' => e = .returned (.int .i64 (st8 l : Int)) ∧ Below w.heap.size w w' := by
  have hl := HT.out.len
  obtain ⟨W1, hW1⟩ : ∃ x, w.alloc (.cells #[.int .u8 9] 5) = x := ⟨_, rfl⟩
  have K1 : Blk W1 w.heap.size 5 #[.int .u8 9] := by rw [← hW1]; exact Blk.new w 5 _
  have L1 : Below w.heap.size w W1 := by rw [← hW1]; exact bAlloc (Below.refl _ _) _
  have HL1 := Hid.mk' L1
  have hT1 := HT.out.keep L1
  have C1 := Hid.mk' (prefix_any ao n c l (some ⟨w.heap.size, 0, none⟩) 1 1 [9] W1 hT1 (nine_tx K1))
  obtain ⟨m, hm⟩ : ∃ m, min 8 n = m := ⟨_, rfl⟩
  obtain ⟨a3, c3, hs3, hT3⟩ := sl_h hT1 (m := m) (by omega)
  have e8 : l.take m = l.take 8 := by
    rw [← hm, ← hl]
    rcases Nat.le_total 8 l.length with h | h
    · rw [Nat.min_eq_left h]
    · rw [Nat.min_eq_right h, List.take_of_length_le h, List.take_of_length_le (Nat.le_refl _)]
  rw [e8] at hT3
  have C2 := Hid.mk' (trimBlank_any a3 m c3 (l.take 8) W1 hT3)
  have hld := ld_le 32 (l.take 8)
  rw [List.length_take] at hld
  have h9 := HT.out.big
  have hmn : min (8 : Int) (n : Int) = (m : Int) := by omega
  have hst : st8 l = if (l.take 1 == [9]) = true then 1 else ld 32 (l.take 8) := by unfold st8; simp
  rw [hst]
  rw [show ([9] : List UInt8).length = 1 from rfl] at C1
  generalize (l.take 1 == [9]) = b at *
  have hw : IntKind.i64.wrap ((m : Int) - ((m - ld 32 (l.take 8) : Nat) : Int)) = (ld 32 (l.take 8) : Int) := by rw [IntKind.wrap_i64]; omega
  generalize ld 32 (l.take 8) = q at *
  cases b with
  | true =>
    clear C2 hT3 hs3 hT1 hld h9 hmn hst hw hm
    go_enter Tryz.func132, Tryz.ntmps132
    go_wp2_with (first | (go_at_call 124; refine C1.out.mono ?_; rintro e w' ⟨rfl, hw⟩; have hq := hw.symm; subst hq; clear hw) | fail)
    go_ret
    exact ⟨rfl, HL1.out⟩
  | false =>
    clear hT3 hT1 hld h9 hst hm
    go_enter Tryz.func132, Tryz.ntmps132
    go_wp2_with (first | (go_at_call 124; refine C1.out.mono ?_; rintro e w' ⟨rfl, hw⟩; have hq := hw.symm; subst hq; clear hw) | (go_at_call 91; refine C2.out.mono ?_; rintro e w' ⟨⟨a4, c4, rfl, -⟩, hw⟩; have hq := hw.symm; subst hq; clear hw) | fail)
    go_ret
    exact ⟨rfl, HL1.out⟩
set_option maxHeartbeats 4000000 in
theorem margin_any (ao : Option Addr) (n c k : Nat) (l : List UInt8) (w : World) (HT : Hid (Tx w ao n c l)) (hk : k ≤ 9999) :
    Calls Tryz.prog 105 #[.slice ao n c, .int .i64 (k : Int)] w fun e w' => e = .returned (.int .i64 (mgn l k 0 : Int)) ∧ Below w.heap.size w w' := by
  have HL := Hid.mk' HT.out.len
  have H9 := Hid.mk' HT.out.big
  go_enter Tryz.func105, Tryz.ntmps105
  go_wp2_with fail
  go_loopg [5, 6, 8] k (fun m x5 x6 x8 wx => ∃ (i q : Nat), x5 = .int .i64 (q : Int) ∧ x8 = .int .i64 (i : Int) ∧ i + m = k ∧ q ≤ n ∧ Hid (mgn l k 0 = mgn l m q) ∧ Hid (Below w.heap.size w wx))
  case atStart => exact ⟨0, 0, rfl, rfl, by omega, by omega, rfl, Below.refl _ _⟩
  case round =>
    obtain ⟨i, q, rfl, rfl, him, hqn, HM, KB⟩ := hrel
    by_cases hg : gk = 0
    · subst hg
      have hik : ¬ ((i : Int) < (k : Int)) := by omega
      have e : mgn l k 0 = q := HM.out
      go_wp2
      go_ret
      exact ⟨by first | rfl | (rw [e]; rfl), KB.out⟩
    · obtain ⟨go, hgo⟩ : ∃ g, gk = g + 1 := ⟨gk - 1, by omega⟩
      subst hgo
      have hik : (i : Int) < (k : Int) := by omega
      obtain ⟨a3, c3, hs3, hT3⟩ := sl_l (HT.out.keep KB.out) (lo := q) (z := (q : Int)) hqn rfl
      have C := Hid.mk' (step_any a3 (n - q) c3 (l.drop q) wr hT3)
      have hs := (st8_le (l.drop q)).1
      rw [List.length_drop, HL.out] at hs
      have hz0 : (0 : Int) ≤ (q : Int) := by omega
      have hz1 : (q : Int) ≤ (n : Int) := by omega
      have HM2 : Hid (mgn l k 0 = if st8 (l.drop q) = 0 then q else mgn l go (q + st8 (l.drop q))) := HM.out
      generalize st8 (l.drop q) = s at *
      clear hT3 HM
      by_cases hs0 : s = 0
      · subst hs0
        have e : mgn l k 0 = q := HM2.out
        go_wp2_with (first | (go_at_call 132; refine C.out.mono ?_; rintro e w' ⟨rfl, hw⟩) | fail)
        go_ret
        exact ⟨by first | rfl | (rw [e]; rfl), bT KB.out hw⟩
      · have e : mgn l k 0 = mgn l go (q + s) := by rw [HM2.out, if_neg hs0]
        have he := Hid.mk' e
        have hs1 : ((s : Int) == 0) = false := by simp; omega
        have h9 := H9.out
        have hw1 : IntKind.i64.wrap ((q : Int) + (s : Int)) = ((q + s : Nat) : Int) := by rw [IntKind.wrap_i64]; omega
        have hw2 : IntKind.i64.wrap ((i : Int) + 1) = ((i + 1 : Nat) : Int) := by rw [IntKind.wrap_i64]; omega
        clear h9 e HM2
        go_wp2_with (first | (go_at_call 132; refine C.out.mono ?_; rintro e w' ⟨rfl, hw⟩) | fail)
        go_roundg go
        case measure => omega
        case rel => exact ⟨i + 1, q + s, by go_num, by go_num, by omega, by omega, he.out, bT KB.out hw⟩
end Go.Proofs.YtppefcnopkmhbaaGreatDoor

namespace Go.Proofs.YtppefcnopkmhbaaGreatDoor
open Go.RowKit

theorem rgB_mk {l : List UInt8} {F T : Int} {L D : Bool} (h1 : 0 ≤ F) (h2 : F ≤ T) (h3 : T ≤ l.length) (h4 : D = false ∨ leB l F = true) : rgB l F T L D = true := by
  unfold rgB
  rw [decide_eq_true ⟨h1, h2, h3⟩, Bool.true_and]
  rcases h4 with h4 | h4
  · rw [h4]; simp
  · rw [h4]; simp
/-- the bytes from a to b -/
def sl (l : List UInt8) (a b : Nat) : List UInt8 := (l.drop a).take (b - a)
theorem sl_app (l : List UInt8) {a b c : Nat} (h1 : a ≤ b) (h2 : b ≤ c) : sl l a b ++ sl l b c = sl l a c := by
  unfold sl
  rw [show c - a = (b - a) + (c - b) from by omega, List.take_add, List.drop_drop, show a + (b - a) = b from by omega]
theorem sl_len {l : List UInt8} {a b : Nat} (hb : b ≤ l.length) : (sl l a b).length = b - a := by unfold sl; simp; omega
theorem sp_mono {l : List UInt8} {i j : Nat} (h : i ≤ j) (hj : j ≤ nl l) : sp l i ≤ sp l j := by
  rcases Nat.lt_or_ge (sp l j) (sp l i) with hh | hh
  · have := (sp_st hj).lt (sp_st (by omega)) hh; omega
  · exact hh
theorem en_last (l : List UInt8) : en l (sp l (nl l)) = l.length := by
  have hs := sp_st (t := l) (n := nl l) (Nat.le_refl _)
  rcases Nat.lt_or_ge (en l (sp l (nl l))) l.length with h1 | h1
  · have := (hs.next h1).low; omega
  · have := en_le hs.low'; omega
end Go.Proofs.YtppefcnopkmhbaaGreatDoor

namespace Go.Proofs.YtppefcnopkmhbaaGreatDoor
open Go.RowKit

set_option maxRecDepth 8000
set_option maxHeartbeats 4000000 in
theorem take_ff_none (w : World) :
    Calls Tryz.prog 100 #[.slice none 0 0, .agg #[.int .i64 0, .int .i64 0, .bool false, .bool false]] w fun e w' => ∃ v, e = tr true false v 0 ∧ w'.ownsRow w.heap.size 5 1 v (tk [] 0 0 false false).length (bv (tk [] 0 0 false false)) ∧ Below w.heap.size w w' := by
  obtain ⟨i5, hi5, hz5, hs5, hb5⟩ := info_parts info5
  have HT := Hid.mk' (tx_nil w)
  obtain ⟨B, hB0⟩ : ∃ B : List UInt8, B = [] := ⟨_, rfl⟩
  have HTK : Hid (tk [] 0 0 false false = B) := by unfold Hid; rw [hB0]; rfl
  have HBL : Hid (B.length = 0) := by unfold Hid; rw [hB0]; rfl
  have HB0 := Hid.mk' hB0
  clear hB0
  have SR : Hid (Srv (((w.alloc (.cells #[.int .i64 (0), .int .i64 (0), .bool false, .bool false] 28)).alloc (.cells #[.bool false, .bool false, .slice none 0 0] 33)).drew) (.slice none 0 0) 0 (bv B)) := by unfold Hid; rw [HB0.out]; exact .inl ⟨rfl, rfl, rfl⟩
  have CL := Hid.mk' (isLE_any none 0 0 0 [] _ (HT.out.keep (bAlloc (bAlloc (Below.refl _ w) (.cells #[.int .i64 (0), .int .i64 (0), .bool false, .bool false] 28)) (.cells #[.bool false, .bool false, .slice none 0 0] 33))))
  go_enter Tryz.func100, Tryz.ntmps100
  go_wp2_with (go_at_call 129; refine CL.out.mono ?_; rintro e w' ⟨rfl, hw⟩; have hq := hw.symm; subst hq; clear hw)
  go_region
  all_goals go_wp2_with (at_builtin; refine append_srv rfl (.const (.slice none 0 0)) (.tmp 57) 22 rfl (w.heap.size + 2) 5 i5 (.int .u8 0) 1 1 Tryz.underlying22 hi5 hz5 hs5 hb5 rfl (by decide) (.slice none 0 0) 0 [] rfl (World.ownsRow_nil _ _ _ _) (.slice none 0 0) 0 (bv B) rfl SR.out ?q1 (bv_one _) ?q2 ?q3 ?q4 ?_)
  case q1 => rw [bv_length, HBL.out, Nat.mul_one]
  case q2 => unfold maxLen; omega
  case q3 => omega
  case q4 => simp
  intro v1 w2 hown1 hgrow1 _
  have HW1 : Hid (w2.ownsRow (w.heap.size + 2) 5 1 v1 0 (bv B)) := by unfold Hid; simpa using hown1
  have L0 : Hid (Below (w.heap.size + 2) ((w.alloc (.cells #[.int .i64 (0), .int .i64 (0), .bool false, .bool false] 28)).alloc (.cells #[.bool false, .bool false, .slice none 0 0] 33)) w2) := (Below.refl _ _).drew.grown hgrow1 (by simp) (fun k hk => by simp [Value.ownBlock] at hk)
  have L1 : Hid (Below w.heap.size w w2) := (bAlloc (bAlloc (Below.refl _ w) (.cells #[.int .i64 (0), .int .i64 (0), .bool false, .bool false] 28)) (.cells #[.bool false, .bool false, .slice none 0 0] 33)).trans (L0.out.mono (by omega))
  obtain ⟨ax, cx, ev1⟩ := own_shape HW1.out
  subst ev1
  obtain ⟨k0, k1, k2, k3, z0, z1, z2, y0, y1, y2, hz⟩ := tk_cells L0.out
  clear hown1 hgrow1
  go_wp2
  exact bodyPost_ret (v := .tuple #[.agg #[.bool true, .bool false, .slice ax 0 cx], .int .i64 0]) (by simp [results, Tryz.results100, go_sem, z0, z1, z2]) rfl ⟨_, rfl, by rw [HTK.out]; have h := own_set3 (b := w.heap.size) HW1.out (x := .bool true) (y := .bool false) (z := .slice ax 0 cx); rw [HBL.out]; exact h, bset3' L1.out _ _ _⟩

end Go.Proofs.YtppefcnopkmhbaaGreatDoor
