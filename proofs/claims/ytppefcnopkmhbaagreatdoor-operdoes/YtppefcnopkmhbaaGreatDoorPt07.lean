/- Col, Ref, Ref2, Splt, Lists, Sml, Fn2 -/
import Derived.Test.YtppefcnopkmhbaaGreatDoorPt06
import Derived.Test.YtppefcnopkmhbaaGreatDoorPt00
import Derived.Test.YtppefcnopkmhbaaGreatDoorPt01
import Derived.Laws.MakeOwn
import Derived.Lib.BufferRead
namespace Go.Proofs.YtppefcnopkmhbaaGreatDoor
open Go.RowKit

set_option maxHeartbeats 1000000 in
theorem lastIndex_any (ao : Option Addr) (n c : Nat) (l : List UInt8) (w : World) (HT : Hid (Tx w ao n c l)) :
    Calls Tryz.prog 151 #[.slice ao n c, .int .u8 10] w fun e w' => e = .returned (.int .i64 ((bg l n : Int) - 1)) ∧ w' = w := by
  have hbig : (n : Int) ≤ 150000000000000 := by have := HT.out.big; omega
  go_enter Tryz.func151, Tryz.ntmps151
  go_wp2_with fail
  go_loopw [5] (fun u wr => ∃ j : Nat, u = .int .i64 ((j : Int) - 1) ∧ j ≤ n ∧ bg l n = bg l j ∧ wr = w) (fun u _ => (intOf u + 1).toNat)
  case atStart => exact ⟨n, rfl, Nat.le_refl _, rfl, rfl⟩
  case round =>
    obtain ⟨j, rfl, hj, hbg, rfl⟩ := hrel
    have HG : Hid (bg l n = bg l j) := hbg
    clear hbg
    cases j with
    | zero =>
      go_wp2
      go_ret
      exact ⟨by rw [HG.out]; rfl, rfl⟩
    | succ i =>
      obtain ⟨g, o, rfl, hc⟩ := HT.out.at (by omega)
      have hc0 := hc i (by omega)
      have hi0 : (0 : Int) ≤ (i : Int) := by omega
      have hin : (i : Int) < (n : Int) := by omega
      have e0 : ((i + 1 : Nat) : Int) - 1 = (i : Int) := by omega
      rw [e0]
      clear hc
      cases h10 : (((at8 l i).toNat : Int) == 10) with
      | true =>
        have HB : Hid (bg l (i + 1) = i + 1) := by unfold Hid bg; rw [if_pos (show le (at8 l i) = true from h10)]
        go_wp2
        go_ret
        refine ⟨?_, rfl⟩
        rw [HG.out, HB.out]
        rw [e0]
        rfl
      | false =>
        have HB : Hid (bg l (i + 1) = bg l i) := by unfold Hid; conv => lhs; unfold bg
                                                    rw [if_neg (by unfold le; rw [h10]; simp)]
        go_wp2
        go_roundw
        case rel => exact ⟨i, by go_num, by omega, by rw [HG.out, HB.out], by trivial⟩
        case measure => first | (simp [intOf]; done) | (simp [intOf]; omega)

set_option maxHeartbeats 400000 in
theorem lastIndexB_any (ao : Option Addr) (n c : Nat) (l : List UInt8) (w : World) (HT : Hid (Tx w ao n c l)) :
    Calls Tryz.prog 143 #[.slice ao n c, .int .u8 10] w fun e w' => e = .returned (.int .i64 ((bg l n : Int) - 1)) ∧ w' = w := by
  go_enter Tryz.func143, Tryz.ntmps143
  go_wp2_with (go_at_call 151; refine (lastIndex_any _ _ _ l _ HT).mono ?_; rintro e w' ⟨rfl, hw⟩; subst hw)
  go_ret
  exact ⟨rfl, rfl⟩

set_option maxHeartbeats 400000 in
theorem column_any (ao : Option Addr) (n c : Nat) (i : Int) (l : List UInt8) (w : World) (HT : Hid (Tx w ao n c l)) :
    Calls Tryz.prog 130 #[.slice ao n c, .int .i64 i] w fun e w' => e = pr (aCol l i) ∧ w' = w := by
  have hlen := HT.out.len
  cases hb : plB l i with
  | true =>
    obtain ⟨k, rfl, hk⟩ := pl_yes hb
    have hp : decide ((0 : Int) ≤ (k : Int) ∧ (k : Int) ≤ n) = true := decide_eq_true (by omega)
    have HA : Hid (pr (aCol l (k : Int)) = .returned (.tuple #[.int .i64 ((k - bg l k : Nat) : Int), .int .i64 0])) := by unfold Hid pr aCol ans; rw [hb]; rfl
    have hkn : k ≤ n := by omega
    have hcap := HT.out.cap
    have hbig : (n : Int) ≤ 150000000000000 := by have := HT.out.big; omega
    have hbk : (bg (l.take k) k : Int) ≤ k := by have := bg_le (l.take k) k; omega
    have hb0 : (0 : Int) ≤ (bg (l.take k) k : Int) := by omega
    have HB : Hid (bg (l.take k) k = bg l k) := bg_take l k k (Nat.le_refl _)
    clear hb hlen
    cases ao with
    | none =>
      obtain ⟨rfl, rfl, rfl⟩ := HT.out.none
      obtain rfl : k = 0 := by omega
      have hz : bg [] 0 = 0 := rfl
      go_enter Tryz.func130, Tryz.ntmps130
      go_wp2_with (first | (go_at_call 109; refine (isPlace_any _ _ _ _ _).mono ?_; rintro e w' ⟨rfl, hw⟩; subst hw) | (go_at_call 143; refine (lastIndexB_any _ _ _ [] _ (tx_nil _)).mono ?_; rintro e w2 ⟨rfl, hw⟩; subst hw))
      go_ret2
      exact ⟨by rw [HA.out]; rfl, rfl⟩
    | some a =>
      go_enter Tryz.func130, Tryz.ntmps130
      go_wp2_with (first | (go_at_call 109; refine (isPlace_any _ _ _ _ _).mono ?_; rintro e w' ⟨rfl, hw⟩; subst hw; rw [hp]) | (go_at_call 143; refine (lastIndexB_any _ _ _ (l.take k) _ (HT.out.head hkn)).mono ?_; rintro e w2 ⟨rfl, hw⟩; subst hw))
      go_ret2
      refine ⟨?_, rfl⟩
      rw [HA.out]
      have h1 := HB.out
      have e1 : ((k - bg l k : Nat) : Int) = (k : Int) - bg (l.take k) k := by omega
      rw [e1]
      rfl
  | false =>
    have hp : decide ((0 : Int) ≤ i ∧ i ≤ (n : Int)) = false := by rw [← hlen]; exact hb
    have HA : Hid (pr (aCol l i) = .returned (.tuple #[.int .i64 0, .int .i64 2])) := by unfold Hid pr aCol ans; rw [hb]; rfl
    clear hb
    go_enter Tryz.func130, Tryz.ntmps130
    go_wp2_with (go_at_call 109; refine (isPlace_any _ _ _ _ _).mono ?_; rintro e w' ⟨rfl, hw⟩; subst hw; rw [hp])
    go_ret2
    exact ⟨by rw [HA.out]; rfl, rfl⟩

end Go.Proofs.YtppefcnopkmhbaaGreatDoor

namespace Go.Proofs.YtppefcnopkmhbaaGreatDoor
open Go.RowKit

theorem le_of {l : List UInt8} {i : Nat} {b : Bool} (h : (((at8 l i).toNat : Int) == 10) = b) : le (at8 l i) = b := h

set_option maxHeartbeats 1000000 in
theorem refCount_any (ao : Option Addr) (n c : Nat) (l : List UInt8) (w : World) (HT : Hid (Tx w ao n c l)) :
    Calls Tryz.prog 51 #[.slice ao n c] w fun e w' => e = .returned (.int .i64 ((nl l : Int) + 1)) ∧ w' = w := by
  have hbig : (n : Int) ≤ 150000000000000 := by have := HT.out.big; omega
  have HL : Hid (l.length = n) := HT.out.len
  go_enter Tryz.func51, Tryz.ntmps51
  go_wp2_with fail
  go_loopw [3, 4] (fun u v wr => ∃ i : Nat, u = .int .i64 ((nl (l.take i) : Int) + 1) ∧ v = .int .i64 i ∧ i ≤ n ∧ wr = w) (fun _ v _ => n - (intOf v).toNat)
  case atStart => exact ⟨0, by rw [List.take_zero]; rfl, rfl, Nat.zero_le _, rfl⟩
  case round =>
    obtain ⟨i, rfl, rfl, hi, rfl⟩ := hrel
    by_cases hlt : i < n
    · obtain ⟨g, o, rfl, hc⟩ := HT.out.at (by omega)
      have hc0 := hc i hlt
      have hi0 : (0 : Int) ≤ (i : Int) := by omega
      have hin : (i : Int) < (n : Int) := by omega
      have hq : (nl (l.take i) : Int) ≤ i := by have h1 := nl_le (l.take i); have h2 : (l.take i).length ≤ i := List.length_take_le _ _; omega
      have hq0 : (0 : Int) ≤ (nl (l.take i) : Int) := by omega
      have HN := Hid.mk' (nl_take l i (by rw [HL.out]; exact hlt))
      clear hc
      cases h10 : (((at8 l i).toNat : Int) == 10) with
      | false =>
        have HN2 : Hid (nl (l.take (i + 1)) = nl (l.take i)) := by unfold Hid; rw [HN.out, le_of h10]; rfl
        go_wp2
        go_roundw
        case rel => exact ⟨i + 1, by rw [HN2.out], by go_num, by omega, by trivial⟩
        case measure => first | (simp [intOf]; done) | (simp [intOf]; omega)
      | true =>
        have HN2 : Hid (nl (l.take (i + 1)) = nl (l.take i) + 1) := by unfold Hid; rw [HN.out, le_of h10]; rfl
        go_wp2
        go_roundw
        case rel => exact ⟨i + 1, by rw [HN2.out]; go_num, by go_num, by omega, by trivial⟩
        case measure => first | (simp [intOf]; done) | (simp [intOf]; omega)
    · obtain rfl : i = n := by omega
      have HN : Hid (l.take i = l) := List.take_of_length_le (by rw [HL.out]; exact Nat.le_refl _)
      go_wp2
      go_ret
      exact ⟨by rw [HN.out]; rfl, rfl⟩

set_option maxHeartbeats 1000000 in
theorem refStart_any (ao : Option Addr) (n c : Nat) (L : Int) (l : List UInt8) (w : World) (h63 : L ≤ 9223372036854775807) (HT : Hid (Tx w ao n c l)) :
    Calls Tryz.prog 45 #[.slice ao n c, .int .i64 L] w fun e w' => e = pr (aStart l L) ∧ w' = w := by
  have hbig : (n : Int) ≤ 150000000000000 := by have := HT.out.big; omega
  have HL : Hid (l.length = n) := HT.out.len
  by_cases hneg : L < 0
  · have HA : Hid (pr (aStart l L) = .returned (.tuple #[.int .i64 0, .int .i64 2])) := by
      unfold Hid pr aStart ans lnB; rw [decide_eq_false (by omega)]; rfl
    go_enter Tryz.func45, Tryz.ntmps45
    go_wp2
    go_ret2
    exact ⟨by rw [HA.out]; rfl, rfl⟩
  obtain ⟨K, rfl⟩ := Int.eq_ofNat_of_zero_le (show 0 ≤ L by omega)
  have HY : Hid (∀ s, St l K s → pr (aStart l (K : Int)) = .returned (.tuple #[.int .i64 s, .int .i64 0])) := by
    intro s hs
    have := hs.low
    unfold pr aStart ans lnB
    rw [decide_eq_true (by omega), Int.toNat_natCast, sp_eq hs]; rfl
  have HZ : Hid (nl l < K → pr (aStart l (K : Int)) = .returned (.tuple #[.int .i64 0, .int .i64 2])) := by
    intro h
    unfold pr aStart ans lnB; rw [decide_eq_false (by omega)]; rfl
  clear hneg
  by_cases h0 : K = 0
  · subst h0
    go_enter Tryz.func45, Tryz.ntmps45
    go_wp2
    go_ret2
    exact ⟨by rw [HY.out 0 (St.zero l)]; rfl, rfl⟩
  have hK1 : (1 : Int) ≤ (K : Int) := by omega
  go_enter Tryz.func45, Tryz.ntmps45
  go_wp2_with fail
  go_loopw [1, 6] (fun u v wr => ∃ (m : Int) (i : Nat), u = .int .i64 m ∧ v = .int .i64 i ∧ m + nl (l.take i) = K ∧ 1 ≤ m ∧ i ≤ n ∧ wr = w) (fun _ v _ => n - (intOf v).toNat)
  case atStart => exact ⟨K, 0, rfl, rfl, by rw [List.take_zero, nl_nil]; omega, hK1, Nat.zero_le _, rfl⟩
  case round =>
    obtain ⟨m, i, rfl, rfl, hm, hm1, hi, rfl⟩ := hrel
    have HM : Hid (m + nl (l.take i) = K) := hm
    have hmb : m ≤ 9223372036854775807 := by omega
    clear hm
    by_cases hlt : i < n
    · obtain ⟨g, o, rfl, hc⟩ := HT.out.at (by omega)
      have hc0 := hc i hlt
      have hi0 : (0 : Int) ≤ (i : Int) := by omega
      have hin : (i : Int) < (n : Int) := by omega
      have HN := Hid.mk' (nl_take l i (by rw [HL.out]; exact hlt))
      clear hc
      cases h10 : (((at8 l i).toNat : Int) == 10) with
      | false =>
        have HN2 : Hid (nl (l.take (i + 1)) = nl (l.take i)) := by unfold Hid; rw [HN.out, le_of h10]; rfl
        go_wp2
        go_roundw
        case rel => exact ⟨m, i + 1, rfl, by go_num, by rw [HN2.out]; exact HM.out, hm1, by omega, by trivial⟩
        case measure => first | (simp [intOf]; done) | (simp [intOf]; omega)
      | true =>
        have HN2 : Hid (nl (l.take (i + 1)) = nl (l.take i) + 1) := by unfold Hid; rw [HN.out, le_of h10]; rfl
        by_cases hz : m = 1
        · subst hz
          have HS : Hid (St l K (i + 1)) := ⟨by rw [HL.out]; exact hlt, by rw [HN2.out]; have := HM.out; omega, .inr ⟨by omega, h10⟩⟩
          go_wp2
          go_ret2
          exact ⟨by rw [HY.out _ HS.out]; rfl, rfl⟩
        · have hz2 : (m - 1 == 0) = false := by rw [beq_eq_false_iff_ne]; omega
          have hz3 : ¬ (m - 1 = 0) := by omega
          go_wp2
          go_roundw
          case rel => exact ⟨m - 1, i + 1, rfl, by go_num, by rw [HN2.out]; have := HM.out; push_cast; omega, by omega, by omega, by trivial⟩
          case measure => first | (simp [intOf]; done) | (simp [intOf]; omega)
    · obtain rfl : i = n := by omega
      have HN : Hid (l.take i = l) := List.take_of_length_le (by rw [HL.out]; exact Nat.le_refl _)
      go_wp2
      go_ret2
      refine ⟨?_, rfl⟩
      rw [HZ.out (by have := HM.out; rw [HN.out] at this; omega)]
      rfl

end Go.Proofs.YtppefcnopkmhbaaGreatDoor

namespace Go.Proofs.YtppefcnopkmhbaaGreatDoor
open Go.RowKit

theorem pl_no {l : List UInt8} {n : Nat} {i : Int} (hl : l.length = n) (h : plB l i = false) : i < 0 ∨ (n : Int) < i := by
  have h := of_decide_eq_false h
  omega

set_option maxHeartbeats 1000000 in
theorem refOf_any (ao : Option Addr) (n c : Nat) (i : Int) (l : List UInt8) (w : World) (HT : Hid (Tx w ao n c l)) :
    Calls Tryz.prog 43 #[.slice ao n c, .int .i64 i] w fun e w' => e = pr (aOf l i) ∧ w' = w := by
  have hlen := HT.out.len
  have hbig : (n : Int) ≤ 150000000000000 := by have := HT.out.big; omega
  cases hb : plB l i with
  | true =>
    obtain ⟨k, rfl, hk⟩ := pl_yes hb
    have HA : Hid (pr (aOf l (k : Int)) = .returned (.tuple #[.int .i64 (nl (l.take k)), .int .i64 0])) := by unfold Hid pr aOf ans; rw [hb]; rfl
    have hkn : k ≤ n := by omega
    have hk0 : ¬ (k : Int) < 0 := by omega
    have hk1 : ¬ (k : Int) > (n : Int) := by omega
    have hcap := HT.out.cap
    have hq : (nl (l.take k) : Int) ≤ k := by have h1 := nl_le (l.take k); have h2 : (l.take k).length ≤ k := List.length_take_le _ _; omega
    have hq0 : (0 : Int) ≤ (nl (l.take k) : Int) := by omega
    clear hb hlen
    cases ao with
    | none =>
      obtain ⟨rfl, rfl, rfl⟩ := HT.out.none
      obtain rfl : k = 0 := by omega
      have hz : nl [] = 0 := rfl
      go_enter Tryz.func43, Tryz.ntmps43
      go_wp2_with (go_at_call 51; refine (refCount_any _ _ _ [] _ (tx_nil _)).mono ?_; rintro e w2 ⟨rfl, hw⟩; subst hw)
      go_ret2
      exact ⟨by rw [HA.out]; rfl, rfl⟩
    | some a =>
      go_enter Tryz.func43, Tryz.ntmps43
      go_wp2_with (go_at_call 51; refine (refCount_any _ _ _ (l.take k) _ (HT.out.head hkn)).mono ?_; rintro e w2 ⟨rfl, hw⟩; subst hw)
      go_ret2
      exact ⟨by rw [HA.out]; rfl, rfl⟩
  | false =>
    have hno := pl_no hlen hb
    have HA : Hid (pr (aOf l i) = .returned (.tuple #[.int .i64 0, .int .i64 2])) := by unfold Hid pr aOf ans; rw [hb]; rfl
    clear hb
    by_cases h0 : i < 0
    · go_enter Tryz.func43, Tryz.ntmps43
      go_wp2
      go_ret2
      exact ⟨by rw [HA.out]; rfl, rfl⟩
    · have h1 : (n : Int) < i := by omega
      clear hno
      go_enter Tryz.func43, Tryz.ntmps43
      go_wp2
      go_ret2
      exact ⟨by rw [HA.out]; rfl, rfl⟩

theorem lb_lt {s e : Nat} (h : s < e) : (lb s e : Int) = (e : Int) - 1 := by unfold lb; omega
theorem lb_eq {s e : Nat} (h : s = e) : lb s e = s := by unfold lb; omega

end Go.Proofs.YtppefcnopkmhbaaGreatDoor

namespace Go.Proofs.YtppefcnopkmhbaaGreatDoor
open Go.RowKit

theorem info22 : (Tryz.prog.info? 22).map (fun i => (i.zero, i.size, i.bytes)) = some (some (.slice none 0 0), 1, 24) := by kernel_rfl

/-- line number i -/
def ln (l : List UInt8) (i : Nat) : List UInt8 := (l.drop (sp l i)).take (en l (sp l i) - sp l i)
/-- the first k lines -/
def lns (l : List UInt8) (k : Nat) : List (List UInt8) := (List.range k).map (ln l)
theorem lns_succ (l : List UInt8) (k : Nat) : lns l (k + 1) = lns l k ++ [ln l k] := by unfold lns; rw [List.range_succ, List.map_append]; rfl
theorem lns_length (l : List UInt8) (k : Nat) : (lns l k).length = k := by simp [lns]
theorem ln_length {l : List UInt8} {i : Nat} (h : i ≤ nl l) : (ln l i).length = en l (sp l i) - sp l i := by
  unfold ln
  have h1 := sp_le h
  have h2 := en_le h1
  simp; omega

/-- a row of bytes, a row of lists -/
def brow (x : Value × List UInt8) : Rw := ⟨5, 1, x.1, x.2.length, bv x.2⟩
def vrow (v : Value) (D : List (Value × List UInt8)) : Rw := ⟨22, 1, v, D.length, D.map (·.1)⟩
/-- a list of lists and its lists, each in memory of its own -/
def spl (v : Value) (D : List (Value × List UInt8)) : List Rw := vrow v D :: D.map brow

theorem Tx.mid {w : World} {ao : Option Addr} {n c s e : Nat} {l : List UInt8} (h : Tx w ao (n - s) c (l.drop s)) (he : e ≤ n) (hs : s ≤ e) : Tx w ao (e - s) c ((l.drop s).take (e - s)) := h.head (by omega)
end Go.Proofs.YtppefcnopkmhbaaGreatDoor

namespace Go.Proofs.YtppefcnopkmhbaaGreatDoor
open Go.RowKit

theorem conv_drew {W : World} {ao : Option Addr} {n c : Nat} {l : List UInt8} (h : Tx W ao n c l) : ∀ q, (convert 22 9 (.slice ao n c)).run Tryz.prog (W.drewN q) = .ok (.string ⟨l.toArray⟩) (W.drewN q) := fun q => conv_tx (h.keep (below_drewN W q))
theorem own_txl {W : World} {base n : Nat} {v : Value} {l : List UInt8} (h : W.ownsRow base 5 1 v n (bv l)) (hb : n ≤ 140737488355328) : ∃ ao c, v = .slice ao n c ∧ Tx W ao n c l := by
  have hl : l.length = n := by have := h.1; rw [bv_length] at this; omega
  rcases h.2 with ⟨rfl, rfl⟩ | ⟨g, cap, cur, rfl, h1, h2, h3, h4, h5, h6⟩
  · obtain rfl := List.eq_nil_of_length_eq_zero hl
    exact ⟨none, 0, rfl, tx_nil W⟩
  · refine ⟨_, cap, rfl, hl, h3, by omega, (fun h => by cases h), fun a ha j hj => ?_⟩
    obtain rfl : (⟨g, 0, none⟩ : Addr) = a := by simpa using ha
    rw [add_none, Nat.zero_add, h.cellAt j (by omega)]
    exact bv_at l j (by omega)

theorem sp_next {l : List UInt8} {i : Nat} (h : i + 1 ≤ nl l) : en l (sp l i) < l.length ∧ sp l (i + 1) = en l (sp l i) + 1 := by
  have hs := sp_st (t := l) (n := i) (by omega)
  have he : en l (sp l i) < l.length := by
    rcases Nat.lt_or_ge (en l (sp l i)) l.length with h1 | h1
    · exact h1
    · have := hs.last (by have := en_le hs.low'; omega); omega
  exact ⟨he, sp_eq (hs.next he)⟩
theorem sp_zero (l : List UInt8) : sp l 0 = 0 := sp_eq (St.zero l)
end Go.Proofs.YtppefcnopkmhbaaGreatDoor

namespace Go.Proofs.YtppefcnopkmhbaaGreatDoor
open Go.RowKit

theorem bset {w W : World} (h : Below w.heap.size w W) {a : Addr} (v : Value) (ha : w.heap.size ≤ a.block) : Below w.heap.size w (W.setCell a v) := h.setCell ha v
/-- a range and an error -/
structure Rg where
  F : Int
  T : Int
  L : Bool
  D : Bool
  E : Int
/-- as a call gives it -/
def rt (r : Rg) : Ending := .returned (.tuple #[.agg #[.int .i64 r.F, .int .i64 r.T, .bool r.L, .bool r.D], .int .i64 r.E])
/-- refused -/
def rno : Rg := ⟨0, 0, false, false, 2⟩
/-- the range of lines -/
def whY (l : List UInt8) (s e : Nat) : Rg := if e < l.length then ⟨s, e + 1, true, false, 0⟩ else if 0 < s then ⟨s - 1, e, true, true, 0⟩ else ⟨s, e, true, false, 0⟩
def wh (l : List UInt8) (f t : Int) : Rg := if lnB l f && lnB l t && decide (f ≤ t) then whY l (sp l f.toNat) (en l (sp l t.toNat)) else rno
theorem ln_at {l : List UInt8} {k : Nat} (h : k ≤ nl l) : lnB l (k : Int) = true := decide_eq_true (by omega)

set_option maxRecDepth 8000
/-- is the byte at a place a line end -/
def leB (l : List UInt8) (i : Int) : Bool := decide (0 ≤ i ∧ i < l.length) && le (at8 l i.toNat)
set_option maxHeartbeats 1000000 in
theorem isLE_any (ao : Option Addr) (n c : Nat) (i : Int) (l : List UInt8) (w : World) (HT : Hid (Tx w ao n c l)) :
    Calls Tryz.prog 129 #[.slice ao n c, .int .i64 i] w fun e w' => e = .returned (.bool (leB l i)) ∧ w' = w := by
  have hlen := HT.out.len
  by_cases h0 : 0 ≤ i
  · by_cases h1 : i < n
    · obtain ⟨k, rfl⟩ := Int.eq_ofNat_of_zero_le h0
      obtain ⟨g, o, rfl, hc⟩ := HT.out.at (by omega)
      have hc0 := hc k (by omega)
      have hd : leB l (k : Int) = le (at8 l k) := by unfold leB; rw [decide_eq_true (by omega)]; rfl
      have hD := Hid.mk' hd
      clear hc hd hlen
      cases hb : le (at8 l k) with
      | true =>
        have h10 : (((at8 l k).toNat : Int) == 10) = true := hb
        rw [hb] at hD
        clear hb
        go_enter Tryz.func129, Tryz.ntmps129
        go_wp2
        go_ret
        exact ⟨by rw [hD.out]; rfl, rfl⟩
      | false =>
        have h10 : (((at8 l k).toNat : Int) == 10) = false := hb
        rw [hb] at hD
        clear hb
        go_enter Tryz.func129, Tryz.ntmps129
        go_wp2
        go_ret
        exact ⟨by rw [hD.out]; rfl, rfl⟩
    · have hd := Hid.mk' (show leB l i = false by unfold leB; rw [decide_eq_false (by omega)]; rfl)
      clear hlen
      go_enter Tryz.func129, Tryz.ntmps129
      go_wp2
      go_ret
      exact ⟨by rw [hd.out]; rfl, rfl⟩
  · have hd := Hid.mk' (show leB l i = false by unfold leB; rw [decide_eq_false (by omega)]; rfl)
    clear hlen
    go_enter Tryz.func129, Tryz.ntmps129
    go_wp2
    go_ret
    exact ⟨by rw [hd.out]; rfl, rfl⟩

end Go.Proofs.YtppefcnopkmhbaaGreatDoor

namespace Go.Proofs.YtppefcnopkmhbaaGreatDoor
open Go.RowKit

set_option maxRecDepth 8000
set_option maxHeartbeats 400000 in
theorem lastByte_any (s e : Nat) (w : World) (h : s ≤ e) (hb : (e : Int) ≤ 150000000000000) :
    Calls Tryz.prog 123 #[.int .i64 s, .int .i64 e] w fun x w' => x = .returned (.int .i64 (lb s e)) ∧ w' = w := by
  have hm : Hid ((max (s : Int) (e - 1)) = (lb s e : Int)) := by unfold Hid lb; omega
  go_enter Tryz.func123, Tryz.ntmps123
  go_wp2
  all_goals go_ret
  all_goals refine ⟨?_, rfl⟩
  all_goals (have hm := hm.out; first | (rw [← hm]; rfl) | (simp; omega) | skip)
set_option maxHeartbeats 400000 in
theorem isBlank_any (b : UInt8) (w : World) : Calls Tryz.prog 122 #[.int .u8 (b.toNat : Int)] w fun x w' => x = .returned (.bool (bl b)) ∧ w' = w := by
  have HB : Hid (bl b = (((b.toNat : Int) == 32) || ((b.toNat : Int) == 9))) := rfl
  generalize bl b = r at *
  generalize (b.toNat : Int) = z at *
  by_cases h1 : z = 32
  · subst h1
    go_enter Tryz.func122, Tryz.ntmps122
    go_wp2
    go_ret
    exact ⟨by rw [HB.out]; rfl, rfl⟩
  · by_cases h2 : z = 9
    · subst h2
      go_enter Tryz.func122, Tryz.ntmps122
      go_wp2
      go_ret
      exact ⟨by rw [HB.out]; rfl, rfl⟩
    · have e1 : (z == 32) = false := by simpa using h1
      have e2 : (z == 9) = false := by simpa using h2
      have HC : Hid (r = false) := by unfold Hid; rw [HB.out, e1, e2]; rfl
      clear HB
      go_enter Tryz.func122, Tryz.ntmps122
      go_wp2
      go_ret
      exact ⟨by rw [HC.out]; rfl, rfl⟩
set_option maxHeartbeats 1000000 in
theorem lat_any (ao : Option Addr) (n c : Nat) (L C : Int) (l : List UInt8) (w : World) (h63 : L ≤ 9223372036854775807) (hC : C ≤ 9223372036854775807) (HT : Hid (Tx w ao n c l)) :
    Calls Tryz.prog 131 #[.slice ao n c, .int .i64 L, .int .i64 C] w fun e w' => e = pr (aAt l L C) ∧ w' = w := by
  cases hb : lnB l L with
  | true =>
    obtain ⟨k, rfl, hk⟩ := ln_yes hb
    by_cases hlow : C < -1
    · have HA : Hid (pr (aAt l (k : Int) C) = .returned (.tuple #[.int .i64 0, .int .i64 2])) := by
        unfold Hid pr aAt ans
        rw [hb, decide_eq_false (show ¬ (-1 ≤ C) by omega)]; rfl
      clear hb
      go_enter Tryz.func131, Tryz.ntmps131
      go_wp2_with (go_at_call 114; refine (startOf_yes ao n c k l _ hk HT).mono ?_; rintro e w' ⟨rfl, hw⟩; subst hw)
      go_ret2
      exact ⟨by rw [HA.out]; rfl, rfl⟩
    · have HA : Hid (pr (aAt l (k : Int) C) = .returned (.tuple #[.int .i64 (pc (sp l k) (en l (sp l k)) C), .int .i64 0])) := by
        unfold Hid pr aAt ans
        rw [hb, decide_eq_true (show -1 ≤ C by omega)]; rfl
      have hs : sp l k ≤ n := by have := sp_le hk; rw [HT.out.len] at this; exact this
      have he : en l (sp l k) ≤ n := by have := en_le (sp_le hk); rw [HT.out.len] at this; exact this
      have hse := en_ge l (sp l k)
      have hbig : (n : Int) ≤ 150000000000000 := by have := HT.out.big; omega
      have C1 := startOf_yes ao n c k l w hk HT
      have C2 := endFrom_any ao n c (sp l k) l w hs HT
      generalize en l (sp l k) = E at *
      generalize sp l k = S at *
      have hE : (E : Int) ≤ 150000000000000 := by omega
      have hSE : (S : Int) ≤ (E : Int) := by omega
      have hS0 : (0 : Int) ≤ (S : Int) := by omega
      have C1 := Hid.mk' C1
      have C2 := Hid.mk' C2
      clear hb
      by_cases hin : 0 ≤ C ∧ C < (E : Int) - S
      · obtain ⟨j, rfl⟩ := Int.eq_ofNat_of_zero_le hin.1
        have HP : Hid (pc S E (j : Int) = S + j) := by unfold Hid pc; rw [if_pos hin]; simp
        have hin1 := hin.1
        have hin2 := hin.2
        clear hin
        go_enter Tryz.func131, Tryz.ntmps131
        go_wp2_with (first | (go_at_call 114; refine C1.out.mono ?_; rintro e w' ⟨rfl, hw⟩; subst hw) | (go_at_call 121; refine C2.out.mono ?_; rintro e w' ⟨rfl, hw⟩; subst hw))
        go_ret2
        refine ⟨?_, rfl⟩
        rw [HA.out, HP.out]
        push_cast
        rfl
      · have HP : Hid (pc S E C = lb S E) := by unfold Hid pc; rw [if_neg hin]
        have hC1 : -1 ≤ C := by omega
        by_cases h0 : 0 ≤ C
        · have h1 : (E : Int) - S ≤ C := by omega
          clear hin
          go_enter Tryz.func131, Tryz.ntmps131
          go_wp2_with (first | (go_at_call 114; refine C1.out.mono ?_; rintro e w' ⟨rfl, hw⟩; subst hw) | (go_at_call 121; refine C2.out.mono ?_; rintro e w' ⟨rfl, hw⟩; subst hw) | (go_at_call 123; refine (lastByte_any S E _ hse hE).mono ?_; rintro e w' ⟨rfl, hw⟩; subst hw))
          go_ret2
          refine ⟨?_, rfl⟩
          rw [HA.out, HP.out]
          rfl
        · have h1 : C < 0 := by omega
          clear hin h0
          go_enter Tryz.func131, Tryz.ntmps131
          go_wp2_with (first | (go_at_call 114; refine C1.out.mono ?_; rintro e w' ⟨rfl, hw⟩; subst hw) | (go_at_call 121; refine C2.out.mono ?_; rintro e w' ⟨rfl, hw⟩; subst hw) | (go_at_call 123; refine (lastByte_any S E _ hse hE).mono ?_; rintro e w' ⟨rfl, hw⟩; subst hw))
          go_ret2
          refine ⟨?_, rfl⟩
          rw [HA.out, HP.out]
          rfl
  | false =>
    have HA : Hid (pr (aAt l L C) = .returned (.tuple #[.int .i64 0, .int .i64 2])) := by unfold Hid pr aAt ans; rw [hb]; rfl
    have hn : Hid (L < 0 ∨ (nl l : Int) < L) := ln_no hb
    clear hb
    go_enter Tryz.func131, Tryz.ntmps131
    go_wp2_with (go_at_call 114; refine (startOf_no ao n c L l _ h63 hn.out HT).mono ?_; rintro e w' ⟨rfl, hw⟩; subst hw)
    go_ret2
    exact ⟨by rw [HA.out]; rfl, rfl⟩
set_option maxHeartbeats 1000000 in
theorem lfirst_any (ao : Option Addr) (n c : Nat) (L : Int) (l : List UInt8) (w : World) (h63 : L ≤ 9223372036854775807) (HT : Hid (Tx w ao n c l)) :
    Calls Tryz.prog 93 #[.slice ao n c, .int .i64 L] w fun e w' => e = pr (aFirst l L) ∧ w' = w := by
  cases hb : lnB l L with
  | true =>
    obtain ⟨k, rfl, hk⟩ := ln_yes hb
    have HA : Hid (pr (aFirst l (k : Int)) = .returned (.tuple #[.int .i64 (fb l (lb (sp l k) (en l (sp l k))) (en l (sp l k) - sp l k) (sp l k)), .int .i64 0])) := by unfold Hid pr aFirst ans; rw [hb]; rfl
    have hs : sp l k ≤ n := by have := sp_le hk; rw [HT.out.len] at this; exact this
    have he : en l (sp l k) ≤ n := by have := en_le (sp_le hk); rw [HT.out.len] at this; exact this
    have hse := en_ge l (sp l k)
    have hbig : (n : Int) ≤ 150000000000000 := by have := HT.out.big; omega
    have C1 := startOf_yes ao n c k l w hk HT
    have C2 := endFrom_any ao n c (sp l k) l w hs HT
    generalize en l (sp l k) = E at *
    generalize sp l k = S at *
    have hE : (E : Int) ≤ 150000000000000 := by omega
    have C1 := Hid.mk' C1
    have C2 := Hid.mk' C2
    clear hb
    go_enter Tryz.func93, Tryz.ntmps93
    go_wp2_with (first | (go_at_call 114; refine C1.out.mono ?_; rintro e w' ⟨rfl, hw⟩; have hq := hw.symm; subst hq) | (go_at_call 121; refine C2.out.mono ?_; rintro e w' ⟨rfl, hw⟩; have hq := hw.symm; subst hq))
    go_loopw [9] (fun u wr => ∃ i : Nat, u = .int .i64 i ∧ S ≤ i ∧ i ≤ E ∧ fb l (lb S E) (E - S) S = fb l (lb S E) (E - i) i ∧ wr = w) (fun u _ => E - (intOf u).toNat)
    case atStart => exact ⟨S, rfl, Nat.le_refl _, hse, rfl, by first | rfl | trivial⟩
    case round =>
      obtain ⟨i, rfl, hSi, hiE, hfb, hw0⟩ := hrel
      have HF : Hid (fb l (lb S E) (E - S) S = fb l (lb S E) (E - i) i) := hfb
      clear hfb
      by_cases hlt : i < E
      · obtain ⟨g, o, rfl, hc⟩ := HT.out.at (by omega)
        have hc0 := hc i (by omega)
        have hi0 : (0 : Int) ≤ (i : Int) := by omega
        have hin : (i : Int) < (n : Int) := by omega
        have hiE' : (i : Int) < (E : Int) := by omega
        clear hc
        cases hbl : bl (at8 l i) with
        | true =>
          have HN : Hid (fb l (lb S E) (E - i) i = fb l (lb S E) (E - (i + 1)) (i + 1)) := by
            unfold Hid
            rw [show E - i = (E - (i + 1)) + 1 from by omega]
            conv => lhs; unfold fb
            rw [if_pos hbl]
          go_wp2_with (go_at_call 122; refine (isBlank_any (at8 l i) _).mono ?_; rintro e w' ⟨rfl, hw⟩; have hq := hw.symm; subst hq; rw [hbl])
          go_roundw
          case rel => exact ⟨i + 1, by go_num, by omega, by omega, by rw [HF.out, HN.out], by first | trivial | exact hw0⟩
          case measure => first | (simp [intOf]; done) | (simp [intOf]; omega)
        | false =>
          have HN : Hid (fb l (lb S E) (E - i) i = i) := by
            unfold Hid
            rw [show E - i = (E - (i + 1)) + 1 from by omega]
            conv => lhs; unfold fb
            rw [if_neg (by rw [hbl]; simp)]
          go_wp2_with (go_at_call 122; refine (isBlank_any (at8 l i) _).mono ?_; rintro e w' ⟨rfl, hw⟩; have hq := hw.symm; subst hq; rw [hbl])
          go_ret2
          exact ⟨by rw [HA.out, HF.out, HN.out]; rfl, by first | trivial | exact hw0⟩
      · obtain rfl : i = E := by omega
        have HN : Hid (fb l (lb S i) (i - i) i = lb S i) := by unfold Hid; rw [Nat.sub_self]; rfl
        go_wp2_with (go_at_call 123; refine (lastByte_any S i _ hse hE).mono ?_; rintro e w' ⟨rfl, hw⟩; have hq := hw.symm; subst hq)
        go_ret2
        exact ⟨by rw [HA.out, HF.out, HN.out]; rfl, by first | trivial | exact hw0⟩
  | false =>
    have HA : Hid (pr (aFirst l L) = .returned (.tuple #[.int .i64 0, .int .i64 2])) := by unfold Hid pr aFirst ans; rw [hb]; rfl
    have hn : Hid (L < 0 ∨ (nl l : Int) < L) := ln_no hb
    clear hb
    go_enter Tryz.func93, Tryz.ntmps93
    go_wp2_with (go_at_call 114; refine (startOf_no ao n c L l _ h63 hn.out HT).mono ?_; rintro e w' ⟨rfl, hw⟩; have hq := hw.symm; subst hq)
    go_ret2
    exact ⟨by rw [HA.out]; rfl, rfl⟩
end Go.Proofs.YtppefcnopkmhbaaGreatDoor
