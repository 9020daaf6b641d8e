/- Col, Ref, Ref2, Rws, Lent, Splt -/
import Derived.Test.YtppefcnopkmhbaaGreatDoorPa00
import Derived.ArgAppend
import Derived.Maps.AppendAt
import Derived.Lib.BufferRead
import Derived.Laws.MakeOwn
namespace Go.Proofs.YtppefcnopkmhbaaGreatDoor
open Go.RowKit

set_option maxHeartbeats 1000000 in
theorem lastIndex_any (ao : Option Addr) (n c : Nat) (l : List UInt8) (w : World) (HT : Hid (Tx w ao n c l)) :
    Calls Tryz.prog 151 #[.slice ao n c, .int .u8 10] w fun e w' => e = .returned (.int .i64 ((bg l n : Int) - 1)) ∧ w' = w := by
  have hbig : (n : Int) ≤ 150000000000000 := by have := HT.out.big; omega
  go_enter Tryz.func151, Tryz.ntmps151
  go_wp2_with fail
  go_loopw [5] (fun u wr => ∃ j : Nat, u = .int .i64 ((j : Int) - 1) ∧ j ≤ n ∧ bg l n = bg l j ∧ wr = w) (fun u _ => (intOf u + 1).toNat)
  case atStart => exact ⟨n, rfl, Nat.le_refl _, rfl, rfl⟩
  case round =>
    obtain ⟨j, rfl, hj, hbg, rfl⟩ := hrel
    have HG : Hid (bg l n = bg l j) := hbg
    clear hbg
    cases j with
    | zero =>
      go_wp2
      go_ret
      exact ⟨by rw [HG.out]; rfl, rfl⟩
    | succ i =>
      obtain ⟨g, o, rfl, hc⟩ := HT.out.at (by omega)
      have hc0 := hc i (by omega)
      have hi0 : (0 : Int) ≤ (i : Int) := by omega
      have hin : (i : Int) < (n : Int) := by omega
      have e0 : ((i + 1 : Nat) : Int) - 1 = (i : Int) := by omega
      rw [e0]
      clear hc
      cases h10 : (((at8 l i).toNat : Int) == 10) with
      | true =>
        have HB : Hid (bg l (i + 1) = i + 1) := by unfold Hid bg; rw [if_pos (show le (at8 l i) = true from h10)]
        go_wp2
        go_ret
        refine ⟨?_, rfl⟩
        rw [HG.out, HB.out]
        rw [e0]
        rfl
      | false =>
        have HB : Hid (bg l (i + 1) = bg l i) := by unfold Hid; conv => lhs; unfold bg
                                                    rw [if_neg (by unfold le; rw [h10]; simp)]
        go_wp2
        go_roundw
        case rel => exact ⟨i, by go_num, by omega, by rw [HG.out, HB.out], by trivial⟩
        case measure => first | (simp [intOf]; done) | (simp [intOf]; omega)

set_option maxHeartbeats 400000 in
theorem lastIndexB_any (ao : Option Addr) (n c : Nat) (l : List UInt8) (w : World) (HT : Hid (Tx w ao n c l)) :
    Calls Tryz.prog 143 #[.slice ao n c, .int .u8 10] w fun e w' => e = .returned (.int .i64 ((bg l n : Int) - 1)) ∧ w' = w := by
  go_enter Tryz.func143, Tryz.ntmps143
  go_wp2_with (go_at_call 151; refine (lastIndex_any _ _ _ l _ HT).mono ?_; rintro e w' ⟨rfl, hw⟩; subst hw)
  go_ret
  exact ⟨rfl, rfl⟩

set_option maxHeartbeats 400000 in
theorem column_any (ao : Option Addr) (n c : Nat) (i : Int) (l : List UInt8) (w : World) (HT : Hid (Tx w ao n c l)) :
    Calls Tryz.prog 130 #[.slice ao n c, .int .i64 i] w fun e w' => e = pr (aCol l i) ∧ w' = w := by
  have hlen := HT.out.len
  cases hb : plB l i with
  | true =>
    obtain ⟨k, rfl, hk⟩ := pl_yes hb
    have hp : decide ((0 : Int) ≤ (k : Int) ∧ (k : Int) ≤ n) = true := decide_eq_true (by omega)
    have HA : Hid (pr (aCol l (k : Int)) = .returned (.tuple #[.int .i64 ((k - bg l k : Nat) : Int), .int .i64 0])) := by unfold Hid pr aCol ans; rw [hb]; rfl
    have hkn : k ≤ n := by omega
    have hcap := HT.out.cap
    have hbig : (n : Int) ≤ 150000000000000 := by have := HT.out.big; omega
    have hbk : (bg (l.take k) k : Int) ≤ k := by have := bg_le (l.take k) k; omega
    have hb0 : (0 : Int) ≤ (bg (l.take k) k : Int) := by omega
    have HB : Hid (bg (l.take k) k = bg l k) := bg_take l k k (Nat.le_refl _)
    clear hb hlen
    cases ao with
    | none =>
      obtain ⟨rfl, rfl, rfl⟩ := HT.out.none
      obtain rfl : k = 0 := by omega
      have hz : bg [] 0 = 0 := rfl
      go_enter Tryz.func130, Tryz.ntmps130
      go_wp2_with (first | (go_at_call 109; refine (isPlace_any _ _ _ _ _).mono ?_; rintro e w' ⟨rfl, hw⟩; subst hw) | (go_at_call 143; refine (lastIndexB_any _ _ _ [] _ (tx_nil _)).mono ?_; rintro e w2 ⟨rfl, hw⟩; subst hw))
      go_ret2
      exact ⟨by rw [HA.out]; rfl, rfl⟩
    | some a =>
      go_enter Tryz.func130, Tryz.ntmps130
      go_wp2_with (first | (go_at_call 109; refine (isPlace_any _ _ _ _ _).mono ?_; rintro e w' ⟨rfl, hw⟩; subst hw; rw [hp]) | (go_at_call 143; refine (lastIndexB_any _ _ _ (l.take k) _ (HT.out.head hkn)).mono ?_; rintro e w2 ⟨rfl, hw⟩; subst hw))
      go_ret2
      refine ⟨?_, rfl⟩
      rw [HA.out]
      have h1 := HB.out
      have e1 : ((k - bg l k : Nat) : Int) = (k : Int) - bg (l.take k) k := by omega
      rw [e1]
      rfl
  | false =>
    have hp : decide ((0 : Int) ≤ i ∧ i ≤ (n : Int)) = false := by rw [← hlen]; exact hb
    have HA : Hid (pr (aCol l i) = .returned (.tuple #[.int .i64 0, .int .i64 2])) := by unfold Hid pr aCol ans; rw [hb]; rfl
    clear hb
    go_enter Tryz.func130, Tryz.ntmps130
    go_wp2_with (go_at_call 109; refine (isPlace_any _ _ _ _ _).mono ?_; rintro e w' ⟨rfl, hw⟩; subst hw; rw [hp])
    go_ret2
    exact ⟨by rw [HA.out]; rfl, rfl⟩

end Go.Proofs.YtppefcnopkmhbaaGreatDoor

namespace Go.Proofs.YtppefcnopkmhbaaGreatDoor
open Go.RowKit

theorem le_of {l : List UInt8} {i : Nat} {b : Bool} (h : (((at8 l i).toNat : Int) == 10) = b) : le (at8 l i) = b := h

set_option maxHeartbeats 1000000 in
theorem refCount_any (ao : Option Addr) (n c : Nat) (l : List UInt8) (w : World) (HT : Hid (Tx w ao n c l)) :
    Calls Tryz.prog 51 #[.slice ao n c] w fun e w' => e = .returned (.int .i64 ((nl l : Int) + 1)) ∧ w' = w := by
  have hbig : (n : Int) ≤ 150000000000000 := by have := HT.out.big; omega
  have HL : Hid (l.length = n) := HT.out.len
  go_enter Tryz.func51, Tryz.ntmps51
  go_wp2_with fail
  go_loopw [3, 4] (fun u v wr => ∃ i : Nat, u = .int .i64 ((nl (l.take i) : Int) + 1) ∧ v = .int .i64 i ∧ i ≤ n ∧ wr = w) (fun _ v _ => n - (intOf v).toNat)
  case atStart => exact ⟨0, by rw [List.take_zero]; rfl, rfl, Nat.zero_le _, rfl⟩
  case round =>
    obtain ⟨i, rfl, rfl, hi, rfl⟩ := hrel
    by_cases hlt : i < n
    · obtain ⟨g, o, rfl, hc⟩ := HT.out.at (by omega)
      have hc0 := hc i hlt
      have hi0 : (0 : Int) ≤ (i : Int) := by omega
      have hin : (i : Int) < (n : Int) := by omega
      have hq : (nl (l.take i) : Int) ≤ i := by have h1 := nl_le (l.take i); have h2 : (l.take i).length ≤ i := List.length_take_le _ _; omega
      have hq0 : (0 : Int) ≤ (nl (l.take i) : Int) := by omega
      have HN := Hid.mk' (nl_take l i (by rw [HL.out]; exact hlt))
      clear hc
      cases h10 : (((at8 l i).toNat : Int) == 10) with
      | false =>
        have HN2 : Hid (nl (l.take (i + 1)) = nl (l.take i)) := by unfold Hid; rw [HN.out, le_of h10]; rfl
        go_wp2
        go_roundw
        case rel => exact ⟨i + 1, by rw [HN2.out], by go_num, by omega, by trivial⟩
        case measure => first | (simp [intOf]; done) | (simp [intOf]; omega)
      | true =>
        have HN2 : Hid (nl (l.take (i + 1)) = nl (l.take i) + 1) := by unfold Hid; rw [HN.out, le_of h10]; rfl
        go_wp2
        go_roundw
        case rel => exact ⟨i + 1, by rw [HN2.out]; go_num, by go_num, by omega, by trivial⟩
        case measure => first | (simp [intOf]; done) | (simp [intOf]; omega)
    · obtain rfl : i = n := by omega
      have HN : Hid (l.take i = l) := List.take_of_length_le (by rw [HL.out]; exact Nat.le_refl _)
      go_wp2
      go_ret
      exact ⟨by rw [HN.out]; rfl, rfl⟩

set_option maxHeartbeats 1000000 in
theorem refStart_any (ao : Option Addr) (n c : Nat) (L : Int) (l : List UInt8) (w : World) (h63 : L ≤ 9223372036854775807) (HT : Hid (Tx w ao n c l)) :
    Calls Tryz.prog 45 #[.slice ao n c, .int .i64 L] w fun e w' => e = pr (aStart l L) ∧ w' = w := by
  have hbig : (n : Int) ≤ 150000000000000 := by have := HT.out.big; omega
  have HL : Hid (l.length = n) := HT.out.len
  by_cases hneg : L < 0
  · have HA : Hid (pr (aStart l L) = .returned (.tuple #[.int .i64 0, .int .i64 2])) := by
      unfold Hid pr aStart ans lnB; rw [decide_eq_false (by omega)]; rfl
    go_enter Tryz.func45, Tryz.ntmps45
    go_wp2
    go_ret2
    exact ⟨by rw [HA.out]; rfl, rfl⟩
  obtain ⟨K, rfl⟩ := Int.eq_ofNat_of_zero_le (show 0 ≤ L by omega)
  have HY : Hid (∀ s, St l K s → pr (aStart l (K : Int)) = .returned (.tuple #[.int .i64 s, .int .i64 0])) := by
    intro s hs
    have := hs.low
    unfold pr aStart ans lnB
    rw [decide_eq_true (by omega), Int.toNat_natCast, sp_eq hs]; rfl
  have HZ : Hid (nl l < K → pr (aStart l (K : Int)) = .returned (.tuple #[.int .i64 0, .int .i64 2])) := by
    intro h
    unfold pr aStart ans lnB; rw [decide_eq_false (by omega)]; rfl
  clear hneg
  by_cases h0 : K = 0
  · subst h0
    go_enter Tryz.func45, Tryz.ntmps45
    go_wp2
    go_ret2
    exact ⟨by rw [HY.out 0 (St.zero l)]; rfl, rfl⟩
  have hK1 : (1 : Int) ≤ (K : Int) := by omega
  go_enter Tryz.func45, Tryz.ntmps45
  go_wp2_with fail
  go_loopw [1, 6] (fun u v wr => ∃ (m : Int) (i : Nat), u = .int .i64 m ∧ v = .int .i64 i ∧ m + nl (l.take i) = K ∧ 1 ≤ m ∧ i ≤ n ∧ wr = w) (fun _ v _ => n - (intOf v).toNat)
  case atStart => exact ⟨K, 0, rfl, rfl, by rw [List.take_zero, nl_nil]; omega, hK1, Nat.zero_le _, rfl⟩
  case round =>
    obtain ⟨m, i, rfl, rfl, hm, hm1, hi, rfl⟩ := hrel
    have HM : Hid (m + nl (l.take i) = K) := hm
    have hmb : m ≤ 9223372036854775807 := by omega
    clear hm
    by_cases hlt : i < n
    · obtain ⟨g, o, rfl, hc⟩ := HT.out.at (by omega)
      have hc0 := hc i hlt
      have hi0 : (0 : Int) ≤ (i : Int) := by omega
      have hin : (i : Int) < (n : Int) := by omega
      have HN := Hid.mk' (nl_take l i (by rw [HL.out]; exact hlt))
      clear hc
      cases h10 : (((at8 l i).toNat : Int) == 10) with
      | false =>
        have HN2 : Hid (nl (l.take (i + 1)) = nl (l.take i)) := by unfold Hid; rw [HN.out, le_of h10]; rfl
        go_wp2
        go_roundw
        case rel => exact ⟨m, i + 1, rfl, by go_num, by rw [HN2.out]; exact HM.out, hm1, by omega, by trivial⟩
        case measure => first | (simp [intOf]; done) | (simp [intOf]; omega)
      | true =>
        have HN2 : Hid (nl (l.take (i + 1)) = nl (l.take i) + 1) := by unfold Hid; rw [HN.out, le_of h10]; rfl
        by_cases hz : m = 1
        · subst hz
          have HS : Hid (St l K (i + 1)) := ⟨by rw [HL.out]; exact hlt, by rw [HN2.out]; have := HM.out; omega, .inr ⟨by omega, h10⟩⟩
          go_wp2
          go_ret2
          exact ⟨by rw [HY.out _ HS.out]; rfl, rfl⟩
        · have hz2 : (m - 1 == 0) = false := by rw [beq_eq_false_iff_ne]; omega
          have hz3 : ¬ (m - 1 = 0) := by omega
          go_wp2
          go_roundw
          case rel => exact ⟨m - 1, i + 1, rfl, by go_num, by rw [HN2.out]; have := HM.out; push_cast; omega, by omega, by omega, by trivial⟩
          case measure => first | (simp [intOf]; done) | (simp [intOf]; omega)
    · obtain rfl : i = n := by omega
      have HN : Hid (l.take i = l) := List.take_of_length_le (by rw [HL.out]; exact Nat.le_refl _)
      go_wp2
      go_ret2
      refine ⟨?_, rfl⟩
      rw [HZ.out (by have := HM.out; rw [HN.out] at this; omega)]
      rfl

end Go.Proofs.YtppefcnopkmhbaaGreatDoor

namespace Go.Proofs.YtppefcnopkmhbaaGreatDoor
open Go.RowKit

theorem pl_no {l : List UInt8} {n : Nat} {i : Int} (hl : l.length = n) (h : plB l i = false) : i < 0 ∨ (n : Int) < i := by
  have h := of_decide_eq_false h
  omega

set_option maxHeartbeats 1000000 in
theorem refOf_any (ao : Option Addr) (n c : Nat) (i : Int) (l : List UInt8) (w : World) (HT : Hid (Tx w ao n c l)) :
    Calls Tryz.prog 43 #[.slice ao n c, .int .i64 i] w fun e w' => e = pr (aOf l i) ∧ w' = w := by
  have hlen := HT.out.len
  have hbig : (n : Int) ≤ 150000000000000 := by have := HT.out.big; omega
  cases hb : plB l i with
  | true =>
    obtain ⟨k, rfl, hk⟩ := pl_yes hb
    have HA : Hid (pr (aOf l (k : Int)) = .returned (.tuple #[.int .i64 (nl (l.take k)), .int .i64 0])) := by unfold Hid pr aOf ans; rw [hb]; rfl
    have hkn : k ≤ n := by omega
    have hk0 : ¬ (k : Int) < 0 := by omega
    have hk1 : ¬ (k : Int) > (n : Int) := by omega
    have hcap := HT.out.cap
    have hq : (nl (l.take k) : Int) ≤ k := by have h1 := nl_le (l.take k); have h2 : (l.take k).length ≤ k := List.length_take_le _ _; omega
    have hq0 : (0 : Int) ≤ (nl (l.take k) : Int) := by omega
    clear hb hlen
    cases ao with
    | none =>
      obtain ⟨rfl, rfl, rfl⟩ := HT.out.none
      obtain rfl : k = 0 := by omega
      have hz : nl [] = 0 := rfl
      go_enter Tryz.func43, Tryz.ntmps43
      go_wp2_with (go_at_call 51; refine (refCount_any _ _ _ [] _ (tx_nil _)).mono ?_; rintro e w2 ⟨rfl, hw⟩; subst hw)
      go_ret2
      exact ⟨by rw [HA.out]; rfl, rfl⟩
    | some a =>
      go_enter Tryz.func43, Tryz.ntmps43
      go_wp2_with (go_at_call 51; refine (refCount_any _ _ _ (l.take k) _ (HT.out.head hkn)).mono ?_; rintro e w2 ⟨rfl, hw⟩; subst hw)
      go_ret2
      exact ⟨by rw [HA.out]; rfl, rfl⟩
  | false =>
    have hno := pl_no hlen hb
    have HA : Hid (pr (aOf l i) = .returned (.tuple #[.int .i64 0, .int .i64 2])) := by unfold Hid pr aOf ans; rw [hb]; rfl
    clear hb
    by_cases h0 : i < 0
    · go_enter Tryz.func43, Tryz.ntmps43
      go_wp2
      go_ret2
      exact ⟨by rw [HA.out]; rfl, rfl⟩
    · have h1 : (n : Int) < i := by omega
      clear hno
      go_enter Tryz.func43, Tryz.ntmps43
      go_wp2
      go_ret2
      exact ⟨by rw [HA.out]; rfl, rfl⟩

theorem lb_lt {s e : Nat} (h : s < e) : (lb s e : Int) = (e : Int) - 1 := by unfold lb; omega
theorem lb_eq {s e : Nat} (h : s = e) : lb s e = s := by unfold lb; omega

end Go.Proofs.YtppefcnopkmhbaaGreatDoor

namespace Go.Proofs.YtppefcnopkmhbaaGreatDoor
open Go.RowKit

theorem own_keep {w w' : World} {base e size n : Nat} {v : Value} {xs : List Value} (h : w.ownsRow base e size v n xs) (hb : Below w.heap.size w w') : w'.ownsRow base e size v n xs := by
  refine ⟨h.1, ?_⟩
  rcases h.2 with h0 | ⟨g, cap, cur, rfl, hb', hg, rest⟩
  · exact .inl h0
  · exact .inr ⟨g, cap, cur, rfl, hb', by rw [hb.block g (Array.getElem?_eq_some_iff.1 hg).1]; exact hg, rest⟩
theorem own_lower {w : World} {base base' e size n : Nat} {v : Value} {xs : List Value} (h : w.ownsRow base e size v n xs) (hb : base' ≤ base) : w.ownsRow base' e size v n xs := by
  refine ⟨h.1, ?_⟩
  rcases h.2 with h0 | ⟨g, cap, cur, rfl, hb', rest⟩
  · exact .inl h0
  · exact .inr ⟨g, cap, cur, rfl, by omega, rest⟩
theorem own_shape {w : World} {base e size n : Nat} {v : Value} {xs : List Value} (h : w.ownsRow base e size v n xs) : ∃ ao cap, v = .slice ao n cap := by
  rcases h.2 with ⟨rfl, rfl⟩ | ⟨g, cap, cur, rfl, _⟩
  · exact ⟨_, _, rfl⟩
  · exact ⟨_, _, rfl⟩
theorem lit_cells (w : World) (cs : Array Value) (e : TypeId) (j : Nat) (u : Value) (h : cs.toList[j]? = some u) : (w.alloc (.cells cs e)).cell? ((⟨w.heap.size, 0, none⟩ : Addr).add j) = some u := by
  rw [add_none, Nat.zero_add, World.cell?_alloc_mark, ← Array.getElem?_toList]; exact h

/-- a and b lie in no block together -/
def Far (a b : Value) : Prop := ∀ g, a.ownBlock = some g → b.ownBlock = some g → False
theorem Far.symm {a b : Value} (h : Far a b) : Far b a := fun g h1 h2 => h g h2 h1
theorem Far.ne {a b : Value} (h : Far a b) : a.ownBlock = none ∨ a.ownBlock ≠ b.ownBlock := by
  cases ha : a.ownBlock with
  | none => exact .inl rfl
  | some g => exact .inr fun e => h g ha e.symm
theorem Far.of {a b : Value} (h : a.ownBlock = none ∨ a.ownBlock ≠ b.ownBlock) : Far a b := fun g h1 h2 => by
  rcases h with h | h
  · rw [h] at h1; cases h1
  · exact h (h1.trans h2.symm)
theorem far_new {w w' : World} {base e s n e' s' n' : Nat} {x y : Value} {xs ys : List Value} (h : w.ownsRow base e s x n xs) (k : w'.ownsRow w.heap.size e' s' y n' ys) : Far x y := fun g h1 h2 => by
  have := (h.lt g h1).2
  have := (k.lt g h2).1
  omega
/-- rows of different types lie apart -/
theorem far_type {w : World} {base e s n base' e' s' n' : Nat} {x y : Value} {xs ys : List Value} (h : w.ownsRow base e s x n xs) (k : w.ownsRow base' e' s' y n' ys) (hne : e ≠ e') : Far x y := fun g h1 h2 => by
  rcases h.2 with ⟨rfl, _⟩ | ⟨g1, c1, u1, rfl, _, hg1, _⟩
  · simp [Value.ownBlock] at h1
  · rcases k.2 with ⟨rfl, _⟩ | ⟨g2, c2, u2, rfl, _, hg2, _⟩
    · simp [Value.ownBlock] at h2
    · simp [Value.ownBlock] at h1 h2
      subst h1 h2
      rw [hg1] at hg2
      simp at hg2
      exact hne hg2.2

structure Rw where
  t : Nat
  s : Nat
  v : Value
  n : Nat
  xs : List Value

structure Rws (w W : World) (R : List Rw) : Prop where
  own : ∀ (i : Nat) (r : Rw), R[i]? = some r → W.ownsRow w.heap.size r.t r.s r.v r.n r.xs
  far : ∀ (i j : Nat) (p q : Rw), i ≠ j → R[i]? = some p → R[j]? = some q → Far p.v q.v
  bel : Below w.heap.size w W

theorem Rws.keep {w W W' : World} {R : List Rw} (h : Rws w W R) (hb : Below W.heap.size W W') : Rws w W' R :=
  ⟨fun i r hi => own_keep (h.own i r hi) hb, h.far, bT h.bel hb⟩
theorem Rws.alloc {w W : World} {R : List Rw} (h : Rws w W R) (o : Obj) : Rws w (W.alloc o) R := h.keep (bAlloc (Below.refl _ _) o)
theorem Rws.drew {w W : World} {R : List Rw} (h : Rws w W R) : Rws w W.drew R := h.keep (Below.refl _ _).drew
theorem Rws.size {w W : World} {R : List Rw} (h : Rws w W R) : w.heap.size ≤ W.heap.size := h.bel.size
theorem Rws.nil (w : World) : Rws w w [] := ⟨fun i r hi => by simp at hi, fun i j p q _ hi => by simp at hi, Below.refl _ _⟩

theorem snoc_at {α : Type} {R : List α} {r x : α} {i : Nat} (h : (R ++ [r])[i]? = some x) : R[i]? = some x ∨ (i = R.length ∧ x = r) := by
  rw [List.getElem?_append] at h
  split at h
  · exact .inl h
  · rename_i hi
    right
    have := (List.getElem?_eq_some_iff.1 h).1
    simp at this
    have e : i = R.length := by omega
    subst e
    simp at h
    exact ⟨rfl, h.symm⟩
/-- one row more, in new memory -/
theorem Rws.new {w W W' : World} {R : List Rw} {t s n : Nat} {v : Value} {xs : List Value} (h : Rws w W R) (hb : Below W.heap.size W W') (ho : W'.ownsRow W.heap.size t s v n xs) : Rws w W' (R ++ [⟨t, s, v, n, xs⟩]) := by
  have hk := h.keep hb
  refine ⟨fun i r hi => ?_, fun i j p q hij hi hj => ?_, hk.bel⟩
  · rcases snoc_at hi with hi | ⟨_, rfl⟩
    · exact hk.own i r hi
    · exact own_lower ho h.size
  · rcases snoc_at hi with hi | ⟨e1, rfl⟩
    · rcases snoc_at hj with hj | ⟨e2, rfl⟩
      · exact h.far i j p q hij hi hj
      · exact far_new (h.own i p hi) ho
    · rcases snoc_at hj with hj | ⟨e2, rfl⟩
      · exact (far_new (h.own j q hj) ho).symm
      · omega
/-- two rows more, in new memory, apart -/
theorem Rws.new2 {w W W' : World} {R : List Rw} {t s n t2 s2 n2 : Nat} {v v2 : Value} {xs xs2 : List Value} (h : Rws w W R) (hb : Below W.heap.size W W') (ho : W'.ownsRow W.heap.size t s v n xs) (ho2 : W'.ownsRow W.heap.size t2 s2 v2 n2 xs2) (hf : v.ownBlock = none ∨ v.ownBlock ≠ v2.ownBlock) : Rws w W' (R ++ [⟨t, s, v, n, xs⟩] ++ [⟨t2, s2, v2, n2, xs2⟩]) := by
  have hk := h.new hb ho
  refine ⟨fun i r hi => ?_, fun i j p q hij hi hj => ?_, hk.bel⟩
  · rcases snoc_at hi with hi | ⟨_, rfl⟩
    · exact hk.own i r hi
    · exact own_lower ho2 h.size
  · have far : ∀ (i : Nat) (p : Rw), (R ++ [⟨t, s, v, n, xs⟩])[i]? = some p → Far p.v v2 := fun i p hi => by
      rcases snoc_at hi with hi | ⟨_, rfl⟩
      · exact far_new (h.own i p hi) ho2
      · exact Far.of hf
    rcases snoc_at hi with hi | ⟨e1, rfl⟩
    · rcases snoc_at hj with hj | ⟨e2, rfl⟩
      · exact hk.far i j p q hij hi hj
      · exact far i p hi
    · rcases snoc_at hj with hj | ⟨e2, rfl⟩
      · exact (far j q hj).symm
      · omega
theorem set_at {α : Type} {R : List α} {r x : α} {i j : Nat} (h : (R.set i r)[j]? = some x) : (j ≠ i ∧ R[j]? = some x) ∨ (j = i ∧ x = r) := by
  rw [List.getElem?_set] at h
  by_cases e : i = j
  · rw [if_pos e] at h
    split at h
    · injection h with h; exact .inr ⟨e.symm, h.symm⟩
    · cases h
  · rw [if_neg e] at h
    exact .inl ⟨Ne.symm e, h⟩
/-- one row is grown -/
theorem Rws.grow {w W W' : World} {R : List Rw} {i : Nat} {r : Rw} {t s n : Nat} {v : Value} {xs : List Value} (h : Rws w W R) (hi : R[i]? = some r) (hg : W.grownBy W' r.v.ownBlock) (ho : W'.ownsRow w.heap.size t s v n xs)
    (hf : v.ownBlock = r.v.ownBlock ∨ ∃ q, v.ownBlock = some q ∧ W.heap.size ≤ q) : Rws w W' (R.set i ⟨t, s, v, n, xs⟩) := by
  have hfar : ∀ j q, j ≠ i → R[j]? = some q → Far q.v v := fun j q hj hq g h1 h2 => by
    rcases hf with e | ⟨k, e, hk⟩
    · exact h.far j i q r hj hq hi g h1 (by rw [← e]; exact h2)
    · have := ((h.own j q hq).lt g h1).2
      rw [e] at h2; simp at h2; omega
  refine ⟨fun j q hj => ?_, fun j k p q hjk hj hk => ?_, h.bel.grown hg h.size (fun k hk => ((h.own i r hi).lt k hk).1)⟩
  · rcases set_at hj with ⟨hne, hj⟩ | ⟨_, rfl⟩
    · exact (h.own j q hj).kept hg (h.far j i q r hne hj hi).ne
    · exact ho
  · rcases set_at hj with ⟨hne, hj⟩ | ⟨e1, rfl⟩
    · rcases set_at hk with ⟨hne2, hk⟩ | ⟨e2, rfl⟩
      · exact h.far j k p q hjk hj hk
      · exact hfar j p hne hj
    · rcases set_at hk with ⟨hne2, hk⟩ | ⟨e2, rfl⟩
      · exact (hfar k q hne2 hk).symm
      · omega
/-- one cell of a row is stored -/
theorem Rws.store {w W : World} {R : List Rw} {i t s g n c : Nat} {xs : List Value} (h : Rws w W R) (hi : R[i]? = some ⟨t, s, .slice (some ⟨g, 0, none⟩) n c, n, xs⟩) (j : Nat) (u : Value) :
    Rws w (W.setCell ⟨g, j, none⟩ u) (R.set i ⟨t, s, .slice (some ⟨g, 0, none⟩) n c, n, xs.set j u⟩) := by
  obtain ⟨h1, h2⟩ := (h.own i _ hi).stored j u
  exact h.grow hi h2 h1 (.inl rfl)

/-- three cells of a row are stored -/
theorem Rws.store3 {w W : World} {R : List Rw} {i t s g n c : Nat} {xs : List Value} (h : Rws w W R) (hi : R[i]? = some ⟨t, s, .slice (some ⟨g, 0, none⟩) n c, n, xs⟩) (j : Nat) (a b d : Value) :
    Rws w (((W.setCell ⟨g, j, none⟩ a).setCell ⟨g, j + 1, none⟩ b).setCell ⟨g, j + 2, none⟩ d) (R.set i ⟨t, s, .slice (some ⟨g, 0, none⟩) n c, n, ((xs.set j a).set (j + 1) b).set (j + 2) d⟩) := by
  have hlt := (List.getElem?_eq_some_iff.1 hi).1
  have h1 := h.store hi j a
  have h2 := h1.store (i := i) (by rw [List.getElem?_set_self hlt]) (j + 1) b
  have h3 := h2.store (i := i) (by rw [List.getElem?_set_self (by simpa using hlt)]) (j + 2) d
  rw [List.set_set, List.set_set] at h3
  exact h3

/-- l is x, grown in its own block, or lies elsewhere -/
def Link (x l : Value) : Prop := (∃ g n m c, x = .slice (some ⟨g, 0, none⟩) n c ∧ l = .slice (some ⟨g, 0, none⟩) m c ∧ n ≤ m) ∨ Far x l
theorem Link.self {W : World} {base e s n : Nat} {x : Value} {xs : List Value} (h : W.ownsRow base e s x n xs) : Link x x := by
  rcases h.2 with ⟨rfl, _⟩ | ⟨g, c, u, rfl, _⟩
  · exact .inr fun g h1 _ => by simp [Value.ownBlock] at h1
  · exact .inl ⟨g, n, n, c, rfl, rfl, Nat.le_refl _⟩
/-- how a list is grown: in place, or in a new block -/
def Grew (W W' : World) (l l' : Value) : Prop := (∃ g n m c, l = .slice (some ⟨g, 0, none⟩) n c ∧ l' = .slice (some ⟨g, 0, none⟩) m c ∧ n ≤ m ∧ W.grownBy W' (some g)) ∨ (∃ q, l'.ownBlock = some q ∧ W.heap.size ≤ q ∧ W.grownBy W' none)
theorem Grew.grown {W W' : World} {l l' : Value} (h : Grew W W' l l') : W.grownBy W' l.ownBlock := by
  rcases h with ⟨g, n, m, c, rfl, rfl, _, h⟩ | ⟨q, _, _, h⟩
  · exact h
  · exact ⟨h.os, h.tape, h.output, h.size, fun k hk _ => h.block k hk (by simp)⟩
theorem Grew.fresh {W W' : World} {l l' : Value} (h : Grew W W' l l') : l'.ownBlock = l.ownBlock ∨ ∃ q, l'.ownBlock = some q ∧ W.heap.size ≤ q := by
  rcases h with ⟨g, n, m, c, rfl, rfl, _, h⟩ | ⟨q, h1, h2, _⟩
  · exact .inl rfl
  · exact .inr ⟨q, h1, h2⟩
theorem own_prefix {W : World} {base e s g n m c : Nat} {xs ys : List Value} (h : W.ownsRow base e s (.slice (some ⟨g, 0, none⟩) m c) m (xs ++ ys)) (hl : xs.length = n * s) (hn : n ≤ m) : W.ownsRow base e s (.slice (some ⟨g, 0, none⟩) n c) n xs := by
  refine ⟨hl, ?_⟩
  rcases h.2 with ⟨h0, _⟩ | ⟨g', c', cur, e1, h1, h2, h3, h4, h5, h6⟩
  · cases h0
  · simp at e1
    obtain ⟨rfl, rfl⟩ := e1
    refine .inr ⟨g, c, cur, rfl, h1, h2, by omega, h4, h5, ?_⟩
    have e : cur.toList.take (n * s) = (cur.toList.take (m * s)).take (n * s) := by
      rw [List.take_take, Nat.min_eq_left (Nat.mul_le_mul_right s hn)]
    rw [e, h6, ← hl, List.take_left]
/-- a list that began as a row is grown: the rows stay -/
theorem Rws.link {w W W' : World} {R : List Rw} {i : Nat} {r : Rw} {l l' : Value} {m : Nat} {ys : List Value} (h : Rws w W R) (hi : R[i]? = some r) (hl : Link r.v l) (hf : ∀ j q, j ≠ i → R[j]? = some q → Far q.v l)
    (hg : Grew W W' l l') (hB : ∀ k, l.ownBlock = some k → w.heap.size ≤ k) (ho : W'.ownsRow w.heap.size r.t r.s l' m (r.xs ++ ys)) : Rws w W' R ∧ Link r.v l' ∧ ∀ j q, j ≠ i → R[j]? = some q → Far q.v l' := by
  have hgr := hg.grown
  have hfr := hg.fresh
  have hnew : ∀ (j : Nat) (q : Rw), R[j]? = some q → Far q.v l → Far q.v l' := fun j q hj hq g h1 h2 => by
    rcases hfr with e | ⟨k, e, hk⟩
    · exact hq g h1 (by rw [← e]; exact h2)
    · have := ((h.own j q hj).lt g h1).2
      rw [e] at h2; simp at h2; omega
  have hown := h.own i r hi
  refine ⟨⟨fun j q hj => ?_, h.far, h.bel.grown hgr h.size hB⟩, ?_, fun j q hne hj => hnew j q hj (hf j q hne hj)⟩
  · by_cases e : j = i
    · subst e
      rw [hi] at hj
      injection hj with hj
      subst hj
      rcases hl with ⟨g, n0, m0, c, e1, e2, hn⟩ | hl
      · rcases hg with ⟨g', a, b, c', e3, e4, hab, hgg⟩ | ⟨q, _, _, hgg⟩
        · rw [e2] at e3
          simp at e3
          obtain ⟨rfl, rfl, rfl⟩ := e3
          have hn0 : r.n = n0 := by
            rcases hown.2 with ⟨e5, _⟩ | ⟨g5, c5, u5, e5, _⟩
            · rw [e1] at e5; cases e5
            · rw [e1] at e5; simp at e5; exact e5.2.1.symm
          have hmb : m = b := by
            rcases ho.2 with ⟨e5, _⟩ | ⟨g5, c5, u5, e5, _⟩
            · rw [e4] at e5; cases e5
            · rw [e4] at e5; simp at e5; exact e5.2.1.symm
          subst hmb
          rw [e4] at ho
          rw [e1, hn0]
          exact own_prefix ho (by rw [hown.1, hn0]) (by omega)
        · exact hown.kept hgg (by cases r.v.ownBlock <;> simp)
      · exact hown.kept hgr hl.ne
    · exact (h.own j q hj).kept hgr (hf j q e hj).ne
  · rcases hl with ⟨g, n0, m0, c, e1, e2, hn⟩ | hl
    · rcases hg with ⟨g', a, b, c', e3, e4, hab, hgg⟩ | ⟨q, h1, h2, _⟩
      · rw [e2] at e3
        simp at e3
        obtain ⟨rfl, rfl, rfl⟩ := e3
        exact .inl ⟨g, n0, b, c, e1, e4, by omega⟩
      · refine .inr fun k hk1 hk2 => ?_
        have := (hown.lt k hk1).2
        rw [h1] at hk2; simp at hk2; omega
    · exact .inr (hnew i r hi hl)

/-- append, of one value or more, to a list that is owned -/
theorem append_grew {w : World} {ops : Array Oper} {rest : List Oper} {o : Oper} {a : Act} {Q : Exit → Act → World → Prop} (hgd : o.guard = none) (s x : Operand) (t : Nat)
    (ho : o.op = .call { callee := .builtin .append, args := #[s, x], argTypes := #[t, t] })
    (base e : Nat) (i : TypeInfo) (z : Value) (size bytes : Nat) (ht : Tryz.prog.underlying t = some (.slice e)) (hi : Tryz.prog.info? e = some i) (hz : i.zero = some z) (hsize : i.size = size) (hby : i.bytes = bytes) (hzs : z.cells.size = size) (hsz : 0 < size)
    (v : Value) (n : Nat) (xs : List Value) (hs : a.eval s = v) (hown : w.ownsRow base e size v n xs)
    (ad : Addr) (m c : Nat) (news : List Value) (hx : a.eval x = .slice (some ad) m c) (hl : news.length = m * size) (hm : 1 ≤ m)
    (hnews : ∀ j u, news[j]? = some u → w.cell? (ad.add j) = some u) (h1 : ∀ u ∈ news, u.oneCell' = true) (h63 : n + m ≤ maxLen) (hb : (n + m) * bytes ≤ 140737488355328) (hbase : base ≤ w.heap.size)
    (h : ∀ v' w', w'.ownsRow base e size v' (n + m) (xs ++ news) → Grew w w' v v' → wpList Tryz.prog ops Q rest (a.put o.dst v') w') :
    wpList Tryz.prog ops Q (o :: rest) a w := by
  have fresh : ∀ {v' : Value} {w' : World}, w'.ownsRow w.heap.size e size v' (n + m) (xs ++ news) → ∃ q, v'.ownBlock = some q ∧ w.heap.size ≤ q := by
    intro v' w' h'
    rcases h'.2 with ⟨_, h0⟩ | ⟨g, cap, cur, rfl, hb, _⟩
    · omega
    · exact ⟨g, rfl, hb⟩
  rcases hown.2 with ⟨hv, h0⟩ | ⟨g, cap, cur, hv, hg1, hg2, hg3, hg4, hg5, hg6⟩
  · subst hv
    subst h0
    have hxs : xs = [] := List.eq_nil_of_length_eq_zero (by have := hown.1; omega)
    subst hxs
    refine wpList_append_grows w hgd s x t ho e i z size bytes ht hi hz hsize hby hzs hsz none 0 0 [] hs (fun _ => ⟨rfl, rfl⟩) (by simp) (fun b hb => by cases hb) ad m c news hx hl hnews h1 (by omega) h63 hb ?_
    intro v' w' h2 h3
    obtain ⟨q, hq1, hq2⟩ := fresh h2
    exact h v' w' (own_lower h2 hbase) (.inr ⟨q, hq1, hq2, h3⟩)
  · subst hv
    by_cases hroom : n + m ≤ cap
    · refine wpList_append_fits w hgd s x t ho base e i size ht hi hsize g n cap xs hs hown ad m c news hx hl hnews h1 hroom ?_
      intro w' h2 h3
      exact h _ w' h2 (.inl ⟨g, n, n + m, cap, rfl, rfl, by omega, h3⟩)
    · refine wpList_append_grows w hgd s x t ho e i z size bytes ht hi hz hsize hby hzs hsz (some ⟨g, 0, none⟩) n cap xs hs (fun hh => by cases hh) hown.1 (fun b hb j u hu => by cases hb; exact hown.cells rfl j u hu) ad m c news hx hl hnews h1 (by omega) h63 hb ?_
      intro v' w' h2 h3
      obtain ⟨q, hq1, hq2⟩ := fresh h2
      exact h v' w' (own_lower h2 hbase) (.inr ⟨q, hq1, hq2, h3⟩)

/-- cells that can be appended -/
def Srv (w : World) (u : Value) (m : Nat) (news : List Value) : Prop := (u = .slice none 0 0 ∧ m = 0 ∧ news = []) ∨ ∃ ad c, u = .slice (some ad) m c ∧ ∀ (j : Nat) (t : Value), news[j]? = some t → w.cell? (ad.add j) = some t
theorem own_srv {w : World} {base e s n : Nat} {v : Value} {xs : List Value} (h : w.ownsRow base e s v n xs) : Srv w v n xs := by
  rcases h.2 with ⟨rfl, h0⟩ | ⟨g, cap, cur, rfl, hb, hg, _⟩
  · subst h0
    exact .inl ⟨rfl, rfl, List.eq_nil_of_length_eq_zero (by have := h.1; omega)⟩
  · exact .inr ⟨⟨g, 0, none⟩, cap, rfl, h.cells rfl⟩
theorem Srv.keep {w w' : World} {u : Value} {m : Nat} {news : List Value} (h : Srv w u m news) (hb : Below w.heap.size w w') : Srv w' u m news := by
  rcases h with h | ⟨ad, c, hu, h⟩
  · exact .inl h
  · refine .inr ⟨ad, c, hu, fun j t hj => ?_⟩
    have hc := h j t hj
    rw [hb.cell (World.block_lt_of_cell? w _ hc)]; exact hc
/-- append of whatever there is, to a list that is owned -/
theorem append_srv {w : World} {ops : Array Oper} {rest : List Oper} {o : Oper} {a : Act} {Q : Exit → Act → World → Prop} (hgd : o.guard = none) (s x : Operand) (t : Nat)
    (ho : o.op = .call { callee := .builtin .append, args := #[s, x], argTypes := #[t, t] })
    (base e : Nat) (i : TypeInfo) (z : Value) (size bytes : Nat) (ht : Tryz.prog.underlying t = some (.slice e)) (hi : Tryz.prog.info? e = some i) (hz : i.zero = some z) (hsize : i.size = size) (hby : i.bytes = bytes) (hzs : z.cells.size = size) (hsz : 0 < size)
    (v : Value) (n : Nat) (xs : List Value) (hs : a.eval s = v) (hown : w.ownsRow base e size v n xs)
    (u : Value) (m : Nat) (news : List Value) (hx : a.eval x = u) (hsrc : Srv w u m news) (hl : news.length = m * size)
    (h1 : ∀ u ∈ news, u.oneCell' = true) (h63 : n + m ≤ maxLen) (hb : (n + m) * bytes ≤ 140737488355328) (hbase : base ≤ w.heap.size)
    (h : ∀ v' w', w'.ownsRow base e size v' (n + m) (xs ++ news) → w.grownBy w' v.ownBlock → (v'.ownBlock = v.ownBlock ∨ ∃ q, v'.ownBlock = some q ∧ w.heap.size ≤ q) → wpList Tryz.prog ops Q rest (a.put o.dst v') w') :
    wpList Tryz.prog ops Q (o :: rest) a w := by
  rcases hsrc with ⟨hu, h0, h2⟩ | ⟨ad, c, hu, hcell⟩
  · subst hu h0 h2
    refine wpList_plain hgd fun K hK => ?_
    have hrun := run_append_owned_none (P := Tryz.prog) (w := w) base t o.type e i size ht hi v n xs hown
    unfold Oper.wp
    simp [execOp, ho, resolve, invoke, builtin, hs, hx, hrun, Result.andThen]
    exact hK _ _ (h v w (by simpa using hown) ⟨rfl, rfl, rfl, Nat.le_refl _, fun _ _ _ => rfl⟩ (.inl rfl))
  · subst hu
    refine wpList_append_own_at _ hgd s x t ho base e i z size bytes ht hi hz hsize hby hzs hsz v n xs hs hown ad m c news hx hl hcell h1 h63 hb hbase ?_
    intro v' w' g1 g2 _ g4
    refine h v' w' g1 g2 ?_
    rcases g4 with e | e
    · exact .inl e
    · exact .inr ⟨_, e, Nat.le_refl _⟩
end Go.Proofs.YtppefcnopkmhbaaGreatDoor

namespace Go.Proofs.YtppefcnopkmhbaaGreatDoor
open Go.RowKit

/-- bytes as cells -/
def bv (l : List UInt8) : List Value := l.map fun b => Value.int .u8 (b.toNat : Int)
theorem bv_length (l : List UInt8) : (bv l).length = l.length := by simp [bv]
theorem bv_at (l : List UInt8) (j : Nat) (h : j < l.length) : (bv l)[j]? = some (.int .u8 ((at8 l j).toNat : Int)) := by simp [bv, at8, h]
theorem bv_one (l : List UInt8) : ∀ u ∈ bv l, u.oneCell' = true := by
  intro u hu; obtain ⟨x, _, rfl⟩ := List.mem_map.1 hu; rfl
theorem info5 : (Tryz.prog.info? 5).map (fun i => (i.zero, i.size, i.bytes)) = some (some (.int .u8 0), 1, 1) := by kernel_rfl
theorem Tx.srv {w : World} {ao : Option Addr} {n c : Nat} {l : List UInt8} (h : Tx w ao n c l) : Srv w (.slice ao n c) n (bv l) := by
  cases ao with
  | none =>
    obtain ⟨rfl, rfl, rfl⟩ := h.none
    exact .inl ⟨rfl, rfl, rfl⟩
  | some a =>
    refine .inr ⟨a, c, rfl, fun j t hj => ?_⟩
    have hlt := (List.getElem?_eq_some_iff.1 hj).1
    rw [bv_length] at hlt
    rw [bv_at l j hlt] at hj
    rw [← hj]
    exact h.cells a rfl j (by rw [← h.len]; exact hlt)
theorem own_some {w : World} {base e size n : Nat} {v : Value} {xs : List Value} (h : w.ownsRow base e size v n xs) (hn : 1 ≤ n) : ∃ g cap, v = .slice (some ⟨g, 0, none⟩) n cap ∧ n ≤ cap ∧ cap ≤ maxLen := by
  rcases h.2 with ⟨_, h0⟩ | ⟨g, cap, cur, rfl, _, _, h1, h2, _⟩
  · omega
  · exact ⟨g, cap, rfl, h1, h2⟩
theorem conv_tx {W : World} {ao : Option Addr} {n c : Nat} {l : List UInt8} (h : Tx W ao n c l) : (convert 22 9 (.slice ao n c)).run Tryz.prog W = .ok (.string ⟨l.toArray⟩) W := by
  cases ao with
  | none =>
    obtain ⟨rfl, rfl, rfl⟩ := h.none
    exact Lib.run_convert_nil_bytes W 22 9 5 0 Tryz.underlying22 Tryz.underlying5 Tryz.underlying9
  | some a =>
    have := run_convert_bytes_back W 22 9 5 a c l Tryz.underlying22 Tryz.underlying5 Tryz.underlying9 (fun j hj => by rw [h.cells a rfl j (by rw [← h.len]; exact hj), at8_eq hj])
    rwa [h.len] at this
def mk2 : List Value := [.int .u8 77, .int .u8 78]
/-- what was lent reads as the text -/
theorem lent_tx {w : World} {g cap base n : Nat} {l : List UInt8} (hl : l.length = n) (hb : n ≤ 150000000000000) (h : w.ownsRow base 5 1 (.slice (some ⟨g, 0, none⟩) (n + 2) cap) (n + 2) (bv l ++ mk2)) : Tx w (some ⟨g, 0, none⟩) n cap l := by
  obtain ⟨g', cap', hv, hc1, hc2⟩ := own_some h (by omega)
  have hcap : n + 2 ≤ cap := by simp at hv; omega
  refine ⟨hl, by omega, hb, (fun h => by cases h), fun a ha j hj => ?_⟩
  obtain rfl : (⟨g, 0, none⟩ : Addr) = a := by simpa using ha
  rw [add_none, Nat.zero_add, h.cellAt j (by omega), List.getElem?_append_left (by rw [bv_length]; omega)]
  exact bv_at l j (by omega)

/-- and all of it as the text with two bytes more -/
theorem lent_all {w : World} {g cap base n : Nat} {l : List UInt8} (hl : l.length = n) (hb : n + 2 ≤ 150000000000000) (h : w.ownsRow base 5 1 (.slice (some ⟨g, 0, none⟩) (n + 2) cap) (n + 2) (bv l ++ mk2)) : Tx w (some ⟨g, 0, none⟩) (n + 2) cap (l ++ [77, 78]) := by
  obtain ⟨g', cap', hv, hc1, hc2⟩ := own_some h (by omega)
  have hcap : n + 2 ≤ cap := by simp at hv; omega
  have e : bv l ++ mk2 = bv (l ++ [77, 78]) := by simp [bv, mk2]
  rw [e] at h
  refine ⟨by simp; omega, by omega, hb, (fun h => by cases h), fun a ha j hj => ?_⟩
  obtain rfl : (⟨g, 0, none⟩ : Addr) = a := by simpa using ha
  rw [add_none, Nat.zero_add, h.cellAt j (by omega)]
  exact bv_at _ j (by simp; omega)
end Go.Proofs.YtppefcnopkmhbaaGreatDoor

namespace Go.Proofs.YtppefcnopkmhbaaGreatDoor
open Go.RowKit

theorem info22 : (Tryz.prog.info? 22).map (fun i => (i.zero, i.size, i.bytes)) = some (some (.slice none 0 0), 1, 24) := by kernel_rfl

/-- line number i -/
def ln (l : List UInt8) (i : Nat) : List UInt8 := (l.drop (sp l i)).take (en l (sp l i) - sp l i)
/-- the first k lines -/
def lns (l : List UInt8) (k : Nat) : List (List UInt8) := (List.range k).map (ln l)
theorem lns_succ (l : List UInt8) (k : Nat) : lns l (k + 1) = lns l k ++ [ln l k] := by unfold lns; rw [List.range_succ, List.map_append]; rfl
theorem lns_length (l : List UInt8) (k : Nat) : (lns l k).length = k := by simp [lns]
theorem ln_length {l : List UInt8} {i : Nat} (h : i ≤ nl l) : (ln l i).length = en l (sp l i) - sp l i := by
  unfold ln
  have h1 := sp_le h
  have h2 := en_le h1
  simp; omega

/-- a row of bytes, a row of lists -/
def brow (x : Value × List UInt8) : Rw := ⟨5, 1, x.1, x.2.length, bv x.2⟩
def vrow (v : Value) (D : List (Value × List UInt8)) : Rw := ⟨22, 1, v, D.length, D.map (·.1)⟩
/-- a list of lists and its lists, each in memory of its own -/
def spl (v : Value) (D : List (Value × List UInt8)) : List Rw := vrow v D :: D.map brow

theorem Tx.mid {w : World} {ao : Option Addr} {n c s e : Nat} {l : List UInt8} (h : Tx w ao (n - s) c (l.drop s)) (he : e ≤ n) (hs : s ≤ e) : Tx w ao (e - s) c ((l.drop s).take (e - s)) := h.head (by omega)
theorem sp_nil (i : Nat) : sp [] i = 0 := rfl
end Go.Proofs.YtppefcnopkmhbaaGreatDoor
