/- Bys, Op2, App, Lpr, Tkffn -/
import Derived.Test.YtppefcnopkmhbaaDoorPa07
import Derived.Test.YtppefcnopkmhbaaDoorPa05
import Derived.Test.YtppefcnopkmhbaaDoorPa02
namespace Go.Proofs.YtppefcnopkmhbaaDoor
open Go.RowKit

set_option maxRecDepth 8000
/-- is there a line end -/
def hasL (l : List UInt8) : Bool := decide (l.findIdx le < l.length)
theorem hasL_nl (l : List UInt8) : hasL l = decide (0 < nl l) := by
  unfold hasL nl
  apply decide_eq_decide.2
  rw [List.countP_pos_iff, List.findIdx_lt_length]
theorem ten_tx {W : World} {B : Nat} (h : Blk W B 5 #[.int .u8 10]) : Tx W (some ⟨B, 0, none⟩) 1 1 [10] :=
  ⟨rfl, by omega, by omega, (fun e => by cases e), fun a ha j hj => by
    injection ha with ha; subst ha
    obtain rfl : j = 0 := by omega
    exact h.cell rfl⟩
set_option maxHeartbeats 1000000 in
theorem bindex_any (ao : Option Addr) (n c B : Nat) (l : List UInt8) (w : World) (h : Hid (Tx w ao n c l)) (hb : w.cell? ⟨B, 0, none⟩ = some (.int .u8 10)) :
    Calls Tryd.prog 60 #[.slice ao n c, .slice (some ⟨B, 0, none⟩) 1 1] w fun e w' => e = .returned (.int .i64 (ixI l n)) ∧ w' = w := by
  have C := Hid.mk' (index_any ao n c l w h)
  go_enter Tryd.func60, Tryd.ntmps60
  go_wp2_with (first | (go_at_call 57; refine C.out.mono ?_; rintro e w' ⟨rfl, hw⟩; subst hw) | fail)
  go_ret
  exact ⟨rfl, rfl⟩
theorem ixI_has {n : Nat} {l : List UInt8} (hl : l.length = n) : ixI l n = -1 ∧ hasL l = false ∨ (∃ k : Nat, ixI l n = (k : Int)) ∧ hasL l = true := by
  unfold ixI hasL
  rw [hl]
  by_cases h : l.findIdx le < n
  · exact .inr ⟨⟨_, if_pos h⟩, decide_eq_true h⟩
  · exact .inl ⟨if_neg h, decide_eq_false h⟩
set_option maxHeartbeats 1000000 in
theorem contains_any (ao : Option Addr) (n c B : Nat) (l : List UInt8) (w : World) (h : Hid (Tx w ao n c l)) (hb : w.cell? ⟨B, 0, none⟩ = some (.int .u8 10)) :
    Calls Tryd.prog 56 #[.slice ao n c, .slice (some ⟨B, 0, none⟩) 1 1] w fun e w' => e = .returned (.bool (hasL l)) ∧ w' = w := by
  have C := bindex_any ao n c B l w h hb
  rcases ixI_has h.out.len with ⟨e1, e2⟩ | ⟨⟨k, e1⟩, e2⟩
  · rw [e1] at C
    rw [e2]
    have C' := Hid.mk' C
    clear C e1 e2
    go_enter Tryd.func56, Tryd.ntmps56
    go_wp2_with (first | (go_at_call 60; refine C'.out.mono ?_; rintro e w' ⟨rfl, hw⟩; subst hw) | fail)
    go_ret
    exact ⟨rfl, rfl⟩
  · rw [e1] at C
    rw [e2]
    have C' := Hid.mk' C
    have h1 : ((k : Int) != -1) = true := bne_iff_ne.2 (by omega)
    have h2 : ¬ ((k : Int) = -1) := by omega
    clear C e1 e2
    go_enter Tryd.func56, Tryd.ntmps56
    go_wp2_with (first | (go_at_call 60; refine C'.out.mono ?_; rintro e w' ⟨rfl, hw⟩; subst hw) | fail)
    go_ret
    exact ⟨rfl, rfl⟩
theorem lack_eq (l : List UInt8) (h : l ≠ []) : (l.drop (l.length - 1) == [10]) = !lack l := by
  have hl : 0 < l.length := List.length_pos_iff.2 h
  have e : l.drop (l.length - 1) = [at8 l (l.length - 1)] := by
    apply List.ext_getElem?
    intro j
    rw [List.getElem?_drop]
    cases j with
    | zero => rw [Nat.add_zero, List.getElem?_eq_getElem (by omega), at8_eq (by omega)]; rfl
    | succ j => rw [List.getElem?_eq_none (by omega)]; rfl
  rw [e]
  unfold lack leB
  rw [decide_eq_true (show (0 : Int) ≤ (l.length : Int) - 1 ∧ (l.length : Int) - 1 < (l.length : Int) by omega), Bool.true_and, Bool.not_not, show ((l.length : Int) - 1).toNat = l.length - 1 by omega, le_ten]
  simp
theorem lack_nil : lack [] = true := by decide +kernel
set_option maxHeartbeats 1000000 in
theorem suffix_any (ao : Option Addr) (n c B : Nat) (l : List UInt8) (w : World) (h : Hid (Tx w ao n c l)) (hb : Hid (Blk w B 5 #[.int .u8 10])) :
    Calls Tryd.prog 27 #[.slice ao n c, .slice (some ⟨B, 0, none⟩) 1 1] w fun e w' => e = .returned (.bool (!lack l)) ∧ w' = w := by
  have hl := h.out.len
  by_cases h0 : n = 0
  · subst h0
    obtain rfl : l = [] := List.eq_nil_of_length_eq_zero hl
    rw [lack_nil]
    go_enter Tryd.func27, Tryd.ntmps27
    go_wp2
    go_ret
    exact ⟨rfl, rfl⟩
  · have hb9 := h.out.big
    have h1 : (1 : Int) ≤ (n : Int) := by omega
    have hw : IntKind.i64.wrap ((n : Int) - 1) = ((n - 1 : Nat) : Int) := by rw [IntKind.wrap_i64]; omega
    obtain ⟨a3, c3, hs3, hT3⟩ := sl_l h.out (lo := n - 1) (z := ((n - 1 : Nat) : Int)) (by omega) rfl
    have hq : n - (n - 1) = 1 := by omega
    rw [hq] at hs3 hT3
    have C := equal_any a3 1 c3 (l.drop (n - 1)) (some ⟨B, 0, none⟩) 1 1 [10] w hT3 (ten_tx hb.out)
    rw [← hl, lack_eq l (by intro e; rw [e] at hl; simp at hl; omega)] at C
    have C' := Hid.mk' C
    generalize (!lack l) = q at *
    clear C hT3 h0 h
    go_enter Tryd.func27, Tryd.ntmps27
    go_wp2_with (first | (go_at_call 50; refine C'.out.mono ?_; rintro e w' ⟨rfl, hw⟩; subst hw) | fail)
    go_ret
    exact ⟨rfl, rfl⟩
end Go.Proofs.YtppefcnopkmhbaaDoor

namespace Go.Proofs.YtppefcnopkmhbaaDoor
open Go.RowKit

set_option maxRecDepth 8000
/-- one step at a line's head -/
def st8 (p : List UInt8) : Nat := if p.take 1 = [9] then 1 else ld 32 (p.take 8)
theorem st8_le (p : List UInt8) : st8 p ≤ p.length ∧ st8 p ≤ 8 := by
  unfold st8
  split
  · rename_i h
    have := congrArg List.length h
    rw [List.length_take] at this
    simp at this
    omega
  · have := ld_le 32 (p.take 8)
    rw [List.length_take] at this
    omega
/-- so many steps -/
def mgn (p : List UInt8) : Nat → Nat → Nat
  | 0, n => n
  | k + 1, n => if st8 (p.drop n) = 0 then n else mgn p k (n + st8 (p.drop n))
theorem mgn_le (p : List UInt8) : ∀ k n, n ≤ p.length → n ≤ mgn p k n ∧ mgn p k n ≤ p.length
  | 0, n, h => ⟨Nat.le_refl n, h⟩
  | k + 1, n, h => by
    unfold mgn
    split
    · exact ⟨Nat.le_refl n, h⟩
    · have h1 := (st8_le (p.drop n)).1
      rw [List.length_drop] at h1
      have := mgn_le p k (n + st8 (p.drop n)) (by omega)
      omega
theorem nine_tx {W : World} {B : Nat} (h : Blk W B 5 #[.int .u8 9]) : Tx W (some ⟨B, 0, none⟩) 1 1 [9] :=
  ⟨rfl, by omega, by omega, (fun e => by cases e), fun a ha j hj => by
    injection ha with ha; subst ha
    obtain rfl : j = 0 := by omega
    exact h.cell rfl⟩
set_option maxHeartbeats 2000000 in
theorem step_any (ao : Option Addr) (n c : Nat) (l : List UInt8) (w : World) (HT : Hid (Tx w ao n c l)) :
    Calls Tryd.prog 84 #[.slice ao n c] w fun e w' => e = .returned (.int .i64 (st8 l : Int)) ∧ Below w.heap.size w w' := by
  have hl := HT.out.len
  obtain ⟨W1, hW1⟩ : ∃ x, w.alloc (.cells #[.int .u8 9] 5) = x := ⟨_, rfl⟩
  have K1 : Blk W1 w.heap.size 5 #[.int .u8 9] := by rw [← hW1]; exact Blk.new w 5 _
  have L1 : Below w.heap.size w W1 := by rw [← hW1]; exact bAlloc (Below.refl _ _) _
  have HL1 := Hid.mk' L1
  have hT1 := HT.out.keep L1
  have C1 := Hid.mk' (prefix_any ao n c l (some ⟨w.heap.size, 0, none⟩) 1 1 [9] W1 hT1 (nine_tx K1))
  obtain ⟨m, hm⟩ : ∃ m, min 8 n = m := ⟨_, rfl⟩
  obtain ⟨a3, c3, hs3, hT3⟩ := sl_h hT1 (m := m) (by omega)
  have e8 : l.take m = l.take 8 := by
    rw [← hm, ← hl]
    rcases Nat.le_total 8 l.length with h | h
    · rw [Nat.min_eq_left h]
    · rw [Nat.min_eq_right h, List.take_of_length_le h, List.take_of_length_le (Nat.le_refl _)]
  rw [e8] at hT3
  have C2 := Hid.mk' (trimBlank_any a3 m c3 (l.take 8) W1 hT3)
  have hld := ld_le 32 (l.take 8)
  rw [List.length_take] at hld
  have h9 := HT.out.big
  have hmn : min (8 : Int) (n : Int) = (m : Int) := by omega
  have hst : st8 l = if (l.take 1 == [9]) = true then 1 else ld 32 (l.take 8) := by unfold st8; simp
  rw [hst]
  rw [show ([9] : List UInt8).length = 1 from rfl] at C1
  generalize (l.take 1 == [9]) = b at *
  have hw : IntKind.i64.wrap ((m : Int) - ((m - ld 32 (l.take 8) : Nat) : Int)) = (ld 32 (l.take 8) : Int) := by rw [IntKind.wrap_i64]; omega
  generalize ld 32 (l.take 8) = q at *
  cases b with
  | true =>
    clear C2 hT3 hs3 hT1 hld h9 hmn hst hw hm
    go_enter Tryd.func84, Tryd.ntmps84
    go_wp2_with (first | (go_at_call 45; refine C1.out.mono ?_; rintro e w' ⟨rfl, hw⟩; have hq := hw.symm; subst hq; clear hw) | fail)
    go_ret
    exact ⟨rfl, HL1.out⟩
  | false =>
    clear hT3 hT1 hld h9 hst hm
    go_enter Tryd.func84, Tryd.ntmps84
    go_wp2_with (first | (go_at_call 45; refine C1.out.mono ?_; rintro e w' ⟨rfl, hw⟩; have hq := hw.symm; subst hq; clear hw) | (go_at_call 90; refine C2.out.mono ?_; rintro e w' ⟨⟨a4, c4, rfl, -⟩, hw⟩; have hq := hw.symm; subst hq; clear hw) | fail)
    go_ret
    exact ⟨rfl, HL1.out⟩
set_option maxHeartbeats 4000000 in
theorem margin_any (ao : Option Addr) (n c k : Nat) (l : List UInt8) (w : World) (HT : Hid (Tx w ao n c l)) (hk : k ≤ 9999) :
    Calls Tryd.prog 67 #[.slice ao n c, .int .i64 (k : Int)] w fun e w' => e = .returned (.int .i64 (mgn l k 0 : Int)) ∧ Below w.heap.size w w' := by
  have HL := Hid.mk' HT.out.len
  have H9 := Hid.mk' HT.out.big
  go_enter Tryd.func67, Tryd.ntmps67
  go_wp2_with fail
  go_loopg [5, 6, 8] k (fun m x5 x6 x8 wx => ∃ (i q : Nat), x5 = .int .i64 (q : Int) ∧ x8 = .int .i64 (i : Int) ∧ i + m = k ∧ q ≤ n ∧ Hid (mgn l k 0 = mgn l m q) ∧ Hid (Below w.heap.size w wx))
  case atStart => exact ⟨0, 0, rfl, rfl, by omega, by omega, rfl, Below.refl _ _⟩
  case round =>
    obtain ⟨i, q, rfl, rfl, him, hqn, HM, KB⟩ := hrel
    by_cases hg : gk = 0
    · subst hg
      have hik : ¬ ((i : Int) < (k : Int)) := by omega
      have e : mgn l k 0 = q := HM.out
      go_wp2
      go_ret
      exact ⟨by first | rfl | (rw [e]; rfl), KB.out⟩
    · obtain ⟨go, hgo⟩ : ∃ g, gk = g + 1 := ⟨gk - 1, by omega⟩
      subst hgo
      have hik : (i : Int) < (k : Int) := by omega
      obtain ⟨a3, c3, hs3, hT3⟩ := sl_l (HT.out.keep KB.out) (lo := q) (z := (q : Int)) hqn rfl
      have C := Hid.mk' (step_any a3 (n - q) c3 (l.drop q) wr hT3)
      have hs := (st8_le (l.drop q)).1
      rw [List.length_drop, HL.out] at hs
      have hz0 : (0 : Int) ≤ (q : Int) := by omega
      have hz1 : (q : Int) ≤ (n : Int) := by omega
      have HM2 : Hid (mgn l k 0 = if st8 (l.drop q) = 0 then q else mgn l go (q + st8 (l.drop q))) := HM.out
      generalize st8 (l.drop q) = s at *
      clear hT3 HM
      by_cases hs0 : s = 0
      · subst hs0
        have e : mgn l k 0 = q := HM2.out
        go_wp2_with (first | (go_at_call 84; refine C.out.mono ?_; rintro e w' ⟨rfl, hw⟩) | fail)
        go_ret
        exact ⟨by first | rfl | (rw [e]; rfl), bT KB.out hw⟩
      · have e : mgn l k 0 = mgn l go (q + s) := by rw [HM2.out, if_neg hs0]
        have he := Hid.mk' e
        have hs1 : ((s : Int) == 0) = false := by simp; omega
        have h9 := H9.out
        have hw1 : IntKind.i64.wrap ((q : Int) + (s : Int)) = ((q + s : Nat) : Int) := by rw [IntKind.wrap_i64]; omega
        have hw2 : IntKind.i64.wrap ((i : Int) + 1) = ((i + 1 : Nat) : Int) := by rw [IntKind.wrap_i64]; omega
        clear h9 e HM2
        go_wp2_with (first | (go_at_call 84; refine C.out.mono ?_; rintro e w' ⟨rfl, hw⟩) | fail)
        go_roundg go
        case measure => omega
        case rel => exact ⟨i + 1, q + s, by go_num, by go_num, by omega, by omega, he.out, bT KB.out hw⟩
end Go.Proofs.YtppefcnopkmhbaaDoor

namespace Go.Proofs.YtppefcnopkmhbaaDoor
open Go.RowKit

set_option maxRecDepth 8000
/-- what Apply gives -/
def ApG (o : Option (List UInt8)) (w : World) (e : Ending) (w' : World) : Prop :=
  (∃ U v, o = some U ∧ e = .returned (.tuple #[v, .int .i64 0]) ∧ w'.ownsRow w.heap.size 5 1 v U.length (bv U) ∧ Below w.heap.size w w') ∨ (o = none ∧ e = .returned (.tuple #[.slice none 0 0, .int .i64 170]) ∧ Below w.heap.size w w')
/-- no text on the way is too long -/
def Mod (T : List UInt8) (D : List Ed) : Prop := ∀ k U, app T (D.take k) = some U → U.length ≤ 140737488355328
theorem app_next {T V : List UInt8} {E : List Er} {i : Nat} {r : Er} (h : app T ((E.map Er.d).take i) = some V) (hr : E[i]? = some r) (hf : fitB V r.d = true) : app T ((E.map Er.d).take (i + 1)) = some (stp V r.d) := by
  have hd : (E.map Er.d)[i]? = some r.d := by rw [List.getElem?_map, hr]; rfl
  obtain ⟨hi, e⟩ := List.getElem?_eq_some_iff.1 hd
  rw [List.take_succ_eq_append_getElem hi, e, app_snoc h, if_pos hf]
theorem app_stop {T V : List UInt8} {E : List Er} {i : Nat} {r : Er} (h : app T ((E.map Er.d).take i) = some V) (hr : E[i]? = some r) (hf : fitB V r.d = false) : app T (E.map Er.d) = none := by
  have hd : (E.map Er.d)[i]? = some r.d := by rw [List.getElem?_map, hr]; rfl
  obtain ⟨hi, e⟩ := List.getElem?_eq_some_iff.1 hd
  rw [← List.take_append_drop i (E.map Er.d), app_append, h, List.drop_eq_getElem_cons hi, e]
  show (if fitB V r.d then _ else none) = none
  rw [hf]; rfl
set_option maxHeartbeats 8000000 in
theorem apply_any (ao : Option Addr) (n c : Nat) (T : List UInt8) (eo : Option Addr) (en ec : Nat) (E : List Er) (w : World) (hT : Hid (Tx w ao n c T)) (hb : n ≤ 140737488355328) (HE : Hid (Edz w eo E)) (hn : E.length = en) (heb : en ≤ 140737488355328) (HM : Hid (Mod T (E.map Er.d))) :
    Calls Tryd.prog 10 #[.slice ao n c, .slice eo en ec] w fun e w' => ApG (app T (E.map Er.d)) w e w' := by
  have HN := Hid.mk' hn
  have C30 := Hid.mk' (clone_any ao n c T w hb hT)
  have hTl := Hid.mk' hT.out.len
  clear hn hb
  go_enter Tryd.func10, Tryd.ntmps10
  go_wp2_with fail
  refine C30.out.mono ?_
  rintro e w0 ⟨v0, rfl, hO, hB⟩
  have O0 : Hid (w0.ownsRow w.heap.size 5 1 v0 T.length (bv T)) := by unfold Hid; rw [hTl.out]; exact hO
  have B0 := Hid.mk' hB
  clear hO hB C30
  dsimp only
  go_wp2_with fail
  go_loopg [6, 8, 13] en (fun m x6 x8 x13 wx => ∃ (i : Nat) (V : List UInt8), x13 = .int .i64 (i : Int) ∧ i + m = en ∧ Hid (app T ((E.map Er.d).take i) = some V) ∧ Hid (wx.ownsRow w.heap.size 5 1 x6 V.length (bv V)) ∧ Hid (Below w.heap.size w wx))
  case atStart => exact ⟨0, T, rfl, by omega, rfl, O0.out, B0.out⟩
  case round =>
    obtain ⟨i, V, rfl, him, HV, KO, KB⟩ := hrel
    obtain ⟨go, hgo⟩ : ∃ g, g = gk - 1 := ⟨_, rfl⟩
    clear O0 B0
    by_cases hi : i < en
    · have hi' : (i : Int) < (en : Int) := by omega
      have hi0 : (0 : Int) ≤ (i : Int) := by omega
      obtain ⟨r, hr⟩ : ∃ r, E[i]? = some r := ⟨_, List.getElem?_eq_getElem (by have := HN.out; omega)⟩
      obtain ⟨g, o, rfl, h3⟩ := HE.out.row.ed3 hr
      have hEt0 := HE.out.txs i r hr
      have HET0 := Hid.mk' hEt0
      have h4 := h3.keep KB.out
      have HR := Hid.mk' hr
      have HVl : Hid (V.length ≤ 140737488355328) := HM.out i V HV.out
      obtain ⟨x6a, x6c, e6, hTx6⟩ := own_tx KO.out (by have := HVl.out; omega)
      subst e6
      have hfd : ∃ b, fitB V r.d = b := ⟨_, rfl⟩
      obtain ⟨b, hb⟩ := hfd
      have HF := Hid.mk' hb
      have CF0 := fun W (hW : Below wr.heap.size wr W) => efits_any x6a V.length x6c V r W (hTx6.keep hW) ((hEt0.keep KB.out).keep hW)
      rw [hb] at CF0
      obtain ⟨ra, rp1, ro, rc1, rO, rp2, rn, rc2, rN⟩ := r
      have CF : Hid (∀ W, Below wr.heap.size wr W → Calls Tryd.prog 25 #[.slice x6a V.length x6c, .agg #[.int .i64 ra, .slice rp1 ro rc1, .slice rp2 rn rc2]] W fun e w' => e = .returned (.bool b) ∧ Below W.heap.size W w') := CF0
      dsimp only at h4
      have t0 := h4.e0
      have t1 := h4.e1
      have t2 := h4.e2
      clear hr h3 h4 hEt0 hTx6 CF0 hb
      obtain ⟨w1, hw1⟩ : ∃ w1, w1 = wr.alloc (.cells #[.int .i64 ra, .slice rp1 ro rc1, .slice rp2 rn rc2] 52) := ⟨_, rfl⟩
      have B1 : Hid (Below wr.heap.size wr w1) := by unfold Hid; rw [hw1]; exact bAlloc (Below.refl _ _) _
      have Y0 : Hid (Blk w1 wr.heap.size 52 #[.int .i64 ra, .slice rp1 ro rc1, .slice rp2 rn rc2]) := by unfold Hid; rw [hw1]; exact Blk.new _ _ _
      go_upto_region 5 with fail
      rw [← hw1]
      clear hw1 t0 t1 t2
      have y0 : w1.cell? ⟨wr.heap.size, 0, none⟩ = some (.int .i64 ra) := Y0.out.cell rfl
      have y1 : w1.cell? ⟨wr.heap.size, 1, none⟩ = some (.slice rp1 ro rc1) := Y0.out.cell rfl
      have y2 : w1.cell? ⟨wr.heap.size, 2, none⟩ = some (.slice rp2 rn rc2) := Y0.out.cell rfl
      go_wp2_with fail
      refine (CF.out w1 B1.out).mono ?_
      rintro e w2 ⟨rfl, hb2⟩
      have B2 := Hid.mk' (bT B1.out hb2)
      have Y2 := Hid.mk' (Y0.out.keep hb2)
      have L2 := Hid.mk' (bT KB.out B2.out)
      clear hb2 CF y0 y1 y2 Y0 B1
      dsimp only
      cases b with
      | false =>
        have HZ : Hid (app T (E.map Er.d) = none) := app_stop HV.out HR.out HF.out
        go_wp2
        exact bodyPost_ret (v := .tuple #[.slice none 0 0, .int .i64 170]) (by simp [results, Tryd.results10]) rfl (.inr ⟨HZ.out, rfl, L2.out⟩)
      | true =>
        obtain ⟨p, hp1, hp2, hp3⟩ := fitB_iff.1 HF.out
        have hpl := fit_len hp2 hp3
        have hol := HET0.out.t1.len
        have hnl := HET0.out.t2.len
        have hnb := HET0.out.b2
        dsimp only [Er.d] at hp1 hp3 hpl hol hnl hnb
        subst hp1
        obtain ⟨j, hj⟩ : ∃ j, j = p + ro := ⟨_, rfl⟩
        have hVl := HVl.out
        have hw9 : IntKind.i64.wrap ((p : Int) + (ro : Int)) = (j : Int) := by rw [IntKind.wrap_i64]; omega
        have hnx := app_next HV.out HR.out HF.out
        have hst : stp V (Er.d ⟨(p : Int), rp1, ro, rc1, rO, rp2, rn, rc2, rN⟩) = V.take p ++ rN ++ V.drop j := by
          show V.take p ++ rN ++ V.drop (p + rO.length) = _
          rw [hj, hol]
        rw [hst] at hnx
        have hlen : (V.take p ++ rN ++ V.drop j).length = p + rn + (V.length - j) := by simp only [List.length_append, List.length_take, List.length_drop]; omega
        have hbd := HM.out (i + 1) _ hnx
        have CR := Hid.mk' (replace_any w.heap.size (.slice x6a V.length x6c) V.length p j V rp2 rn rc2 (p + rn + (V.length - j)) rN w2 (own_keep KO.out B2.out) (HET0.out.t2.keep L2.out) (fun hm a ha => by
          obtain ⟨a', u, e', hc⟩ := HET0.out.t2.ne hm
          rw [show (rp2 : Option Addr) = some a' from e'] at ha
          injection ha with ha
          subst ha
          exact lt_of_cell hc) (by omega) (by omega) rfl (by omega) hnb (by omega) L2.out.size)
        have HNX := Hid.mk' hnx
        have HLN := Hid.mk' hlen
        have y0 : w2.cell? ⟨wr.heap.size, 0, none⟩ = some (.int .i64 (p : Int)) := Y2.out.cell rfl
        have y1 : w2.cell? ⟨wr.heap.size, 1, none⟩ = some (.slice rp1 ro rc1) := Y2.out.cell rfl
        have y2 : w2.cell? ⟨wr.heap.size, 2, none⟩ = some (.slice rp2 rn rc2) := Y2.out.cell rfl
        have hw8 : IntKind.i64.wrap ((i : Int) + 1) = ((i + 1 : Nat) : Int) := by rw [IntKind.wrap_i64]; omega
        have KO2 := Hid.mk' (own_keep KO.out B2.out)
        clear hnx hlen hbd hst hj hVl hpl hol hnl hnb hp2 hp3 Y2 B2 HF
        go_wp2_with fail
        refine CR.out.mono ?_
        rintro e w3 ⟨v', rfl, hO3, hG3, hF3⟩
        have O3 : Hid (w3.ownsRow w.heap.size 5 1 v' (V.take p ++ rN ++ V.drop j).length (bv (V.take p ++ rN ++ V.drop j))) := by unfold Hid; rw [HLN.out]; exact hO3
        have L3 : Hid (Below w.heap.size w w3) := L2.out.grown hG3 L2.out.size (fun k hk => (KO2.out.lt k hk).1)
        clear hO3 hG3 hF3 CR
        dsimp only
        go_wp2
        go_roundg go
        case measure => omega
        case rel => exact ⟨i + 1, _, by go_num, by omega, HNX.out, O3.out, L3.out⟩
    · have hi' : ¬ (i : Int) < (en : Int) := by omega
      have HF : Hid (app T (E.map Er.d) = some V) := by
        have h1 := HV.out
        rw [List.take_of_length_le (by rw [List.length_map]; have := HN.out; omega)] at h1
        exact h1
      clear hgo
      go_wp2
      exact bodyPost_ret (v := .tuple #[u6, .int .i64 0]) (by simp [results, Tryd.results10]) rfl (.inl ⟨V, _, HF.out, rfl, KO.out, KB.out⟩)
end Go.Proofs.YtppefcnopkmhbaaDoor

namespace Go.Proofs.YtppefcnopkmhbaaDoor
open Go.RowKit

theorem rgB_mk {l : List UInt8} {F T : Int} {L D : Bool} (h1 : 0 ≤ F) (h2 : F ≤ T) (h3 : T ≤ l.length) (h4 : D = false ∨ leB l F = true) : rgB l F T L D = true := by
  unfold rgB
  rw [decide_eq_true ⟨h1, h2, h3⟩, Bool.true_and]
  rcases h4 with h4 | h4
  · rw [h4]; simp
  · rw [h4]; simp
/-- the bytes from a to b -/
def sl (l : List UInt8) (a b : Nat) : List UInt8 := (l.drop a).take (b - a)
theorem sl_app (l : List UInt8) {a b c : Nat} (h1 : a ≤ b) (h2 : b ≤ c) : sl l a b ++ sl l b c = sl l a c := by
  unfold sl
  rw [show c - a = (b - a) + (c - b) from by omega, List.take_add, List.drop_drop, show a + (b - a) = b from by omega]
theorem sl_self (l : List UInt8) (a : Nat) : sl l a a = [] := by unfold sl; rw [Nat.sub_self, List.take_zero]
theorem sl_one {l : List UInt8} {e : Nat} (h : e < l.length) (hl : le (at8 l e) = true) : sl l e (e + 1) = [10] := by
  unfold sl
  rw [show e + 1 - e = 1 from by omega, List.drop_eq_getElem_cons h, List.take_succ_cons, List.take_zero]
  rw [le_ten, at8_eq h] at hl
  rw [eq_of_beq hl]
theorem sl_zero (l : List UInt8) (b : Nat) : sl l 0 b = l.take b := by unfold sl; rw [List.drop_zero, Nat.sub_zero]
theorem sl_end (l : List UInt8) (a : Nat) : sl l a l.length = l.drop a := by unfold sl; rw [List.take_of_length_le (by simp)]
theorem sl_len {l : List UInt8} {a b : Nat} (hb : b ≤ l.length) : (sl l a b).length = b - a := by unfold sl; simp; omega
theorem ln_sl (l : List UInt8) (i : Nat) : ln l i = sl l (sp l i) (en l (sp l i)) := rfl
theorem sp_mono {l : List UInt8} {i j : Nat} (h : i ≤ j) (hj : j ≤ nl l) : sp l i ≤ sp l j := by
  rcases Nat.lt_or_ge (sp l j) (sp l i) with hh | hh
  · have := (sp_st hj).lt (sp_st (by omega)) hh; omega
  · exact hh
theorem en_last (l : List UInt8) : en l (sp l (nl l)) = l.length := by
  have hs := sp_st (t := l) (n := nl l) (Nat.le_refl _)
  rcases Nat.lt_or_ge (en l (sp l (nl l))) l.length with h1 | h1
  · have := (hs.next h1).low; omega
  · have := en_le hs.low'; omega
theorem lnT {l : List UInt8} {i : Nat} (h : i + 1 ≤ nl l) : ln l i ++ [10] = sl l (sp l i) (sp l (i + 1)) := by
  obtain ⟨h1, h2⟩ := sp_next h
  rw [ln_sl, h2, ← sl_one h1 (en_edge h1)]
  exact sl_app l (en_ge l _) (by omega)
/-- k lines from f on, each with a line end -/
def cat (l : List UInt8) (f : Nat) : Nat → List UInt8
  | 0 => []
  | k + 1 => (cat l f k ++ ln l (f + k)) ++ [10]
theorem cat_in {l : List UInt8} {f : Nat} : ∀ k, f + k ≤ nl l → cat l f k = sl l (sp l f) (sp l (f + k))
  | 0, _ => by rw [Nat.add_zero, sl_self]; rfl
  | k + 1, h => by
    unfold cat
    rw [cat_in k (by omega), List.append_assoc, lnT (by omega)]
    exact sl_app l (sp_mono (by omega) (by omega)) (sp_mono (by omega) (by omega))
theorem cat_last {l : List UInt8} {f : Nat} (h : f ≤ nl l) : cat l f (nl l + 1 - f) = l.drop (sp l f) ++ [10] := by
  rw [show nl l + 1 - f = (nl l - f) + 1 from by omega]
  unfold cat
  rw [cat_in (nl l - f) (by omega), show f + (nl l - f) = nl l from by omega, ln_sl, en_last, sl_app l (sp_mono h (Nat.le_refl _)) (sp_le (Nat.le_refl _)), sl_end]
theorem cat_len {l : List UInt8} {f k : Nat} (h : f + k ≤ nl l + 1) : (cat l f k).length ≤ l.length + 1 := by
  rcases Nat.lt_or_ge (nl l) (f + k) with hh | hh
  · rcases Nat.eq_zero_or_pos k with h0 | h0
    · subst h0; exact Nat.zero_le _
    · obtain rfl : k = nl l + 1 - f := by omega
      rw [cat_last (by omega), List.length_append, List.length_drop]; simp
  · rw [cat_in k hh, sl_len (sp_le hh)]
    have := sp_le hh; omega
/-- the lines but f to t, of the first i -/
def RR (l : List UInt8) (f t i : Nat) : List UInt8 := if i ≤ f then jl l i else if i ≤ t + 1 then jl l f else l.take (sp l f) ++ sl l (sp l (t + 1)) (en l (sp l (i - 1)))
/-- how many of them -/
def lft (f t i : Nat) : Nat := if i ≤ f then i else if i ≤ t + 1 then f else i + f - (t + 1)
theorem jl_ten {l : List UInt8} {i : Nat} (h0 : 0 < i) (h : i ≤ nl l) : jl l i ++ [10] = l.take (sp l i) := by
  obtain ⟨k, rfl⟩ : ∃ k, i = k + 1 := ⟨i - 1, by omega⟩
  exact jl_end h
theorem RR_skip {l : List UInt8} {f t i : Nat} (h1 : f ≤ i) (h2 : i ≤ t) : RR l f t (i + 1) = RR l f t i ∧ lft f t (i + 1) = lft f t i := by
  unfold RR lft
  rw [if_neg (show ¬ i + 1 ≤ f by omega), if_pos (show i + 1 ≤ t + 1 by omega), if_neg (show ¬ i + 1 ≤ f by omega), if_pos (show i + 1 ≤ t + 1 by omega)]
  rcases Nat.lt_or_ge f i with h | h
  · rw [if_neg (by omega), if_pos (by omega), if_neg (by omega), if_pos (by omega)]; exact ⟨rfl, rfl⟩
  · obtain rfl : i = f := by omega
    rw [if_pos (Nat.le_refl _), if_pos (Nat.le_refl _)]; exact ⟨rfl, rfl⟩
theorem RR_step {l : List UInt8} {f t i : Nat} (hft : f ≤ t) (hi : i ≤ nl l) (h : i < f ∨ t < i) : RR l f t (i + 1) = (if 0 < lft f t i then RR l f t i ++ [10] else RR l f t i) ++ ln l i ∧ lft f t (i + 1) = lft f t i + 1 := by
  rcases h with h | h
  · have e1 : RR l f t (i + 1) = jl l (i + 1) := if_pos (by omega)
    have e2 : RR l f t i = jl l i := if_pos (by omega)
    have e3 : lft f t i = i := if_pos (by omega)
    have e4 : lft f t (i + 1) = i + 1 := if_pos (by omega)
    rw [e1, e2, e3, e4]
    refine ⟨?_, rfl⟩
    rw [← jl_next hi]
    rcases Nat.eq_zero_or_pos i with h0 | h0
    · subst h0; rw [if_neg (by omega), sp_zero]; rfl
    · rw [if_pos h0, jl_ten h0 hi]
  · have e1 : RR l f t (i + 1) = l.take (sp l f) ++ sl l (sp l (t + 1)) (en l (sp l i)) := by
      unfold RR; rw [if_neg (by omega), if_neg (by omega), Nat.add_sub_cancel]
    have e4 : lft f t (i + 1) = i + 1 + f - (t + 1) := by unfold lft; rw [if_neg (by omega), if_neg (by omega)]
    rw [e1, e4]
    rcases Nat.lt_or_ge (t + 1) i with h1 | h1
    · have e2 : RR l f t i = l.take (sp l f) ++ sl l (sp l (t + 1)) (en l (sp l (i - 1))) := by unfold RR; rw [if_neg (by omega), if_neg (by omega)]
      have e3 : lft f t i = i + f - (t + 1) := by unfold lft; rw [if_neg (by omega), if_neg (by omega)]
      rw [e2, e3, if_pos (by omega)]
      refine ⟨?_, by omega⟩
      obtain ⟨q1, q2⟩ := sp_next (l := l) (i := i - 1) (by omega)
      rw [show i - 1 + 1 = i from by omega] at q2
      have m1 := sp_mono (l := l) (i := t + 1) (j := i - 1) (by omega) (by omega)
      have m2 := en_ge l (sp l (i - 1))
      rw [List.append_assoc, List.append_assoc]
      congr 1
      rw [← sl_one q1 (en_edge q1), ln_sl, q2, sl_app l (by omega) (en_ge l _), sl_app l (by omega) (by have := en_ge l (en l (sp l (i - 1)) + 1); omega)]
    · obtain rfl : i = t + 1 := by omega
      have e2 : RR l f t (t + 1) = jl l f := by unfold RR; rw [if_neg (by omega), if_pos (by omega)]
      have e3 : lft f t (t + 1) = f := by unfold lft; rw [if_neg (by omega), if_pos (by omega)]
      rw [e2, e3]
      refine ⟨?_, by omega⟩
      rcases Nat.eq_zero_or_pos f with h0 | h0
      · subst h0; rw [if_neg (by omega), sp_zero]; rfl
      · rw [if_pos h0, jl_ten h0 (by omega)]; rfl
theorem jl_len {l : List UInt8} (i : Nat) : (jl l i).length ≤ l.length := by
  cases i with
  | zero => exact Nat.zero_le _
  | succ i => unfold jl; rw [List.length_take]; omega
theorem RR_len {l : List UInt8} {f t i : Nat} (hft : f ≤ t) (hi : i ≤ nl l + 1) : (RR l f t i).length ≤ l.length := by
  unfold RR
  split
  · exact jl_len _
  · split
    · exact jl_len _
    · rename_i h1 h2
      have m0 := sp_le (t := l) (n := i - 1) (by omega)
      have m1 := en_le m0
      have m2 := sp_mono (l := l) (i := f) (j := t + 1) (by omega) (by omega)
      have m3 := sp_le (t := l) (n := t + 1) (by omega)
      rw [List.length_append, List.length_take, sl_len m1]; omega
theorem tkb_f (l : List UInt8) (a b : Nat) : tkb l a b false = sl l a b := rfl
theorem tkb_t (l : List UInt8) (a b : Nat) : tkb l a b true = sl l (a + 1) b := rfl
theorem lack_no {l : List UInt8} {a b : Nat} (h : a < b) (hb : b ≤ l.length) (hl : le (at8 l (b - 1)) = true) : lack (sl l a b) = false := by
  have hlen : (sl l a b).length = b - a := sl_len hb
  unfold lack leB
  rw [hlen, decide_eq_true (by omega), Bool.true_and]
  have e : at8 (sl l a b) ((((b - a : Nat) : Int) - 1).toNat) = at8 l (b - 1) := by
    unfold at8 sl
    rw [List.getD_eq_getElem?_getD, List.getD_eq_getElem?_getD, List.getElem?_take, if_pos (by omega), List.getElem?_drop]
    congr 2; omega
  rw [e, hl]; rfl
theorem lack_yes {l : List UInt8} (h : l.length = 0 ∨ le (at8 l (l.length - 1)) = false) : lack l = true := by
  unfold lack leB
  rcases h with h | h
  · rw [h]; rfl
  · rcases Nat.eq_zero_or_pos l.length with h0 | h0
    · rw [h0]; rfl
    · rw [decide_eq_true (by omega), Bool.true_and, show (((l.length : Nat) : Int) - 1).toNat = l.length - 1 from by omega, h]; rfl
/-- how many lines Take tells of -/
def cnt (l : List UInt8) (f t : Nat) : Nat := if f = 0 ∧ t = nl l ∧ 0 < t ∧ (ln l t).length = 0 then t - f else t + 1 - f
theorem lines_out {l : List UInt8} {f t : Nat} (hft : f ≤ t) (ht : t ≤ nl l) : ∃ (F T : Nat) (D : Bool), whY l (sp l f) (en l (sp l t)) = ⟨F, T, true, D, 0⟩ ∧ F ≤ T ∧ T ≤ l.length ∧ rgB l F T true D = true ∧ tk l F T true D = cat l f (cnt l f t) ∧ l.take F ++ l.drop T = RR l f t (nl l + 1) := by
  have hs := sp_le (t := l) (n := f) (by omega)
  have hs2 := sp_le ht
  have hm := sp_mono hft ht
  have he := en_le hs2
  have heg := en_ge l (sp l t)
  unfold whY
  rcases Nat.lt_or_ge t (nl l) with htn | htn
  · obtain ⟨h1, h2⟩ := sp_next (l := l) (i := t) htn
    rw [if_pos h1]
    refine ⟨sp l f, en l (sp l t) + 1, false, rfl, by omega, by omega, rgB_mk (by omega) (by omega) (by omega) (.inl rfl), ?_, ?_⟩
    · have hc : cnt l f t = t + 1 - f := if_neg (fun h => by omega)
      rw [hc, cat_in (t + 1 - f) (by omega), show f + (t + 1 - f) = t + 1 from by omega, h2]
      have hlk : lack (sl l (sp l f) (en l (sp l t) + 1)) = false := lack_no (by omega) (by omega) (by simpa using en_edge h1)
      unfold tk
      rw [show (true && false) = false from rfl, tkb_f, hlk]; rfl
    · unfold RR
      rw [if_neg (by omega), if_neg (by omega), Nat.add_sub_cancel, en_last, sl_end, h2]
  · obtain rfl : t = nl l := by omega
    rw [en_last] at he heg ⊢
    rw [if_neg (by omega)]
    have hR : RR l f (nl l) (nl l + 1) = jl l f := by unfold RR; rw [if_neg (by omega), if_pos (Nat.le_refl _)]
    rw [hR]
    rcases Nat.eq_zero_or_pos f with hf | hf
    · subst hf
      rw [sp_zero, if_neg (by omega)]
      refine ⟨0, l.length, false, rfl, Nat.zero_le _, Nat.le_refl _, rgB_mk (by omega) (by omega) (by omega) (.inl rfl), ?_, by simp [jl]⟩
      have htk : tk l 0 l.length true false = if lack l = true then l ++ [10] else l := by
        unfold tk
        rw [show (true && false) = false from rfl, tkb_f, sl_end, List.drop_zero]; simp
      rw [htk]
      have hll : (ln l (nl l)).length = l.length - sp l (nl l) := by rw [ln_sl, en_last, sl_len (Nat.le_refl _)]
      have hst := sp_st (t := l) (n := nl l) (Nat.le_refl _)
      by_cases hx : 0 < nl l ∧ (ln l (nl l)).length = 0
      · have hc : cnt l 0 (nl l) = nl l := if_pos ⟨rfl, rfl, hx.1, hx.2⟩
        have hspn : sp l (nl l) = l.length := by have := hx.2; omega
        have hpos : 0 < sp l (nl l) := by
          rcases Nat.eq_zero_or_pos (sp l (nl l)) with h | h
          · have h5 := hst.num; rw [h] at h5; have h6 : nl (l.take 0) = 0 := rfl; omega
          · exact h
        have hle : le (at8 l (l.length - 1)) = true := by
          rcases hst.edge with h | ⟨_, h⟩
          · omega
          · rwa [hspn] at h
        have hlk : lack l = false := by
          have := lack_no (l := l) (a := 0) (b := l.length) (by omega) (Nat.le_refl _) hle
          rwa [sl_end, List.drop_zero] at this
        rw [hlk, hc, cat_in (nl l) (by omega), Nat.zero_add, hspn, sp_zero, sl_end]; rfl
      · have hc : cnt l 0 (nl l) = nl l + 1 - 0 := if_neg (fun h => hx ⟨h.2.2.1, h.2.2.2⟩)
        have hlk : lack l = true := by
          apply lack_yes
          rcases Nat.eq_zero_or_pos l.length with h0 | h0
          · exact .inl h0
          · right
            have hge : sp l (nl l) ≤ l.length - 1 := by
              rcases Nat.eq_zero_or_pos (nl l) with h1 | h1
              · have : sp l (nl l) = 0 := by rw [h1]; exact sp_zero l
                omega
              · have : ¬ (ln l (nl l)).length = 0 := fun h => hx ⟨h1, h⟩
                omega
            exact en_none hge (by rw [en_last]; omega)
        rw [hlk, hc, cat_last (Nat.zero_le _), sp_zero]; rfl
    · have hst := sp_st (t := l) (n := f) (by omega)
      have hpos : 0 < sp l f := by
        rcases Nat.eq_zero_or_pos (sp l f) with h | h
        · have h5 := hst.num; rw [h] at h5; have h6 : nl (l.take 0) = 0 := rfl; omega
        · exact h
      have hle : le (at8 l (sp l f - 1)) = true := by
        rcases hst.edge with h | ⟨_, h⟩
        · omega
        · exact h
      rw [if_pos hpos]
      refine ⟨sp l f - 1, l.length, true, by rw [show ((sp l f - 1 : Nat) : Int) = (sp l f : Int) - 1 from by omega], by omega, Nat.le_refl _, rgB_mk (by omega) (by omega) (by omega) (.inr ?_), ?_, ?_⟩
      · unfold leB
        rw [decide_eq_true (by omega), Int.toNat_natCast, hle]; rfl
      · have hc : cnt l f (nl l) = nl l + 1 - f := if_neg (fun h => by omega)
        rw [hc, cat_last (by omega)]
        unfold tk
        rw [show (true && true) = true from rfl, tkb_t, show sp l f - 1 + 1 = sp l f from by omega, sl_end]; rfl
      · rw [List.drop_length, List.append_nil]
        obtain ⟨k, rfl⟩ : ∃ k, f = k + 1 := ⟨f - 1, by omega⟩
        obtain ⟨q1, q2⟩ := sp_next (l := l) (i := k) (by omega)
        show _ = l.take (en l (sp l k))
        rw [q2, Nat.add_sub_cancel]

end Go.Proofs.YtppefcnopkmhbaaDoor

namespace Go.Proofs.YtppefcnopkmhbaaDoor
open Go.RowKit

set_option maxRecDepth 8000
set_option maxHeartbeats 4000000 in
theorem take_ff_none (w : World) :
    Calls Tryd.prog 62 #[.slice none 0 0, .agg #[.int .i64 0, .int .i64 0, .bool false, .bool false]] w fun e w' => ∃ v, e = tr true false v 0 ∧ w'.ownsRow w.heap.size 5 1 v (tk [] 0 0 false false).length (bv (tk [] 0 0 false false)) ∧ Below w.heap.size w w' := by
  obtain ⟨i5, hi5, hz5, hs5, hb5⟩ := info_parts info5
  have HT := Hid.mk' (tx_nil w)
  obtain ⟨B, hB0⟩ : ∃ B : List UInt8, B = [] := ⟨_, rfl⟩
  have HTK : Hid (tk [] 0 0 false false = B) := by unfold Hid; rw [hB0]; rfl
  have HBL : Hid (B.length = 0) := by unfold Hid; rw [hB0]; rfl
  have HB0 := Hid.mk' hB0
  clear hB0
  have SR : Hid (Srv (((w.alloc (.cells #[.int .i64 (0), .int .i64 (0), .bool false, .bool false] 37)).alloc (.cells #[.bool false, .bool false, .slice none 0 0] 30)).drew) (.slice none 0 0) 0 (bv B)) := by unfold Hid; rw [HB0.out]; exact .inl ⟨rfl, rfl, rfl⟩
  have CL := Hid.mk' (isLE_any none 0 0 0 [] _ (HT.out.keep (bAlloc (bAlloc (Below.refl _ w) (.cells #[.int .i64 (0), .int .i64 (0), .bool false, .bool false] 37)) (.cells #[.bool false, .bool false, .slice none 0 0] 30))))
  go_enter Tryd.func62, Tryd.ntmps62
  go_wp2_with (go_at_call 81; refine CL.out.mono ?_; rintro e w' ⟨rfl, hw⟩; have hq := hw.symm; subst hq; clear hw)
  go_region
  all_goals go_wp2_with (at_builtin; refine append_srv rfl (.const (.slice none 0 0)) (.tmp 57) 22 rfl (w.heap.size + 2) 5 i5 (.int .u8 0) 1 1 Tryd.underlying22 hi5 hz5 hs5 hb5 rfl (by decide) (.slice none 0 0) 0 [] rfl (World.ownsRow_nil _ _ _ _) (.slice none 0 0) 0 (bv B) rfl SR.out ?q1 (bv_one _) ?q2 ?q3 ?q4 ?_)
  case q1 => rw [bv_length, HBL.out, Nat.mul_one]
  case q2 => unfold maxLen; omega
  case q3 => omega
  case q4 => simp
  intro v1 w2 hown1 hgrow1 _
  have HW1 : Hid (w2.ownsRow (w.heap.size + 2) 5 1 v1 0 (bv B)) := by unfold Hid; simpa using hown1
  have L0 : Hid (Below (w.heap.size + 2) ((w.alloc (.cells #[.int .i64 (0), .int .i64 (0), .bool false, .bool false] 37)).alloc (.cells #[.bool false, .bool false, .slice none 0 0] 30)) w2) := (Below.refl _ _).drew.grown hgrow1 (by simp) (fun k hk => by simp [Value.ownBlock] at hk)
  have L1 : Hid (Below w.heap.size w w2) := (bAlloc (bAlloc (Below.refl _ w) (.cells #[.int .i64 (0), .int .i64 (0), .bool false, .bool false] 37)) (.cells #[.bool false, .bool false, .slice none 0 0] 30)).trans (L0.out.mono (by omega))
  obtain ⟨ax, cx, ev1⟩ := own_shape HW1.out
  subst ev1
  obtain ⟨k0, k1, k2, k3, z0, z1, z2, y0, y1, y2, hz⟩ := tk_cells L0.out
  clear hown1 hgrow1
  go_wp2
  exact bodyPost_ret (v := .tuple #[.agg #[.bool true, .bool false, .slice ax 0 cx], .int .i64 0]) (by simp [results, Tryd.results62, go_sem, z0, z1, z2]) rfl ⟨_, rfl, by rw [HTK.out]; have h := own_set3 (b := w.heap.size) HW1.out (x := .bool true) (y := .bool false) (z := .slice ax 0 cx); rw [HBL.out]; exact h, bset3' L1.out _ _ _⟩

end Go.Proofs.YtppefcnopkmhbaaDoor
