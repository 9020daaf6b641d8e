/- Col, Ref, Ref2, Rws, Lent, Splt -/
import Derived.Test.YtppefcnopkmhbaaGreatDoorPq00
import Derived.ArgAppend
import Derived.Maps.AppendAt
import Derived.Lib.BufferRead
import Derived.Laws.MakeOwn
namespace Go.Proofs.YtppefcnopkmhbaaGreatDoor
open Go.RowKit

set_option maxHeartbeats 1000000 in
theorem lastIndex_any (ao : Option Addr) (n c : Nat) (l : List UInt8) (w : World) (HT : Hid (Tx w ao n c l)) :
    Calls Tryz.prog 151 #[.slice ao n c, .int .u8 10] w fun e w' => e = .returned (.int .i64 ((bg l n : Int) - 1)) ∧ w' = w := by
  have hbig : (n : Int) ≤ 150000000000000 := by have := HT.out.big; omega
  go_enter Tryz.func151, Tryz.ntmps151
  go_wp2_with fail
  go_loopw [5] (fun u wr => ∃ j : Nat, u = .int .i64 ((j : Int) - 1) ∧ j ≤ n ∧ bg l n = bg l j ∧ wr = w) (fun u _ => (intOf u + 1).toNat)
  case atStart => exact ⟨n, rfl, Nat.le_refl _, rfl, rfl⟩
  case round =>
    obtain ⟨j, rfl, hj, hbg, rfl⟩ := hrel
    have HG : Hid (bg l n = bg l j) := hbg
    clear hbg
    cases j with
    | zero =>
      go_wp2
      go_ret
      exact ⟨by rw [HG.out]; rfl, rfl⟩
    | succ i =>
      obtain ⟨g, o, rfl, hc⟩ := HT.out.at (by omega)
      have hc0 := hc i (by omega)
      have hi0 : (0 : Int) ≤ (i : Int) := by omega
      have hin : (i : Int) < (n : Int) := by omega
      have e0 : ((i + 1 : Nat) : Int) - 1 = (i : Int) := by omega
      rw [e0]
      clear hc
      cases h10 : (((at8 l i).toNat : Int) == 10) with
      | true =>
        have HB : Hid (bg l (i + 1) = i + 1) := by unfold Hid bg; rw [if_pos (show le (at8 l i) = true from h10)]
        go_wp2
        go_ret
        refine ⟨?_, rfl⟩
        rw [HG.out, HB.out]
        rw [e0]
        rfl
      | false =>
        have HB : Hid (bg l (i + 1) = bg l i) := by unfold Hid; conv => lhs; unfold bg
                                                    rw [if_neg (by unfold le; rw [h10]; simp)]
        go_wp2
        go_roundw
        case rel => exact ⟨i, by go_num, by omega, by rw [HG.out, HB.out], by trivial⟩
        case measure => first | (simp [intOf]; done) | (simp [intOf]; omega)

set_option maxHeartbeats 400000 in
theorem lastIndexB_any (ao : Option Addr) (n c : Nat) (l : List UInt8) (w : World) (HT : Hid (Tx w ao n c l)) :
    Calls Tryz.prog 143 #[.slice ao n c, .int .u8 10] w fun e w' => e = .returned (.int .i64 ((bg l n : Int) - 1)) ∧ w' = w := by
  go_enter Tryz.func143, Tryz.ntmps143
  go_wp2_with (go_at_call 151; refine (lastIndex_any _ _ _ l _ HT).mono ?_; rintro e w' ⟨rfl, hw⟩; subst hw)
  go_ret
  exact ⟨rfl, rfl⟩

set_option maxHeartbeats 400000 in
theorem column_any (ao : Option Addr) (n c : Nat) (i : Int) (l : List UInt8) (w : World) (HT : Hid (Tx w ao n c l)) :
    Calls Tryz.prog 130 #[.slice ao n c, .int .i64 i] w fun e w' => e = pr (aCol l i) ∧ w' = w := by
  have hlen := HT.out.len
  cases hb : plB l i with
  | true =>
    obtain ⟨k, rfl, hk⟩ := pl_yes hb
    have hp : decide ((0 : Int) ≤ (k : Int) ∧ (k : Int) ≤ n) = true := decide_eq_true (by omega)
    have HA : Hid (pr (aCol l (k : Int)) = .returned (.tuple #[.int .i64 ((k - bg l k : Nat) : Int), .int .i64 0])) := by unfold Hid pr aCol ans; rw [hb]; rfl
    have hkn : k ≤ n := by omega
    have hcap := HT.out.cap
    have hbig : (n : Int) ≤ 150000000000000 := by have := HT.out.big; omega
    have hbk : (bg (l.take k) k : Int) ≤ k := by have := bg_le (l.take k) k; omega
    have hb0 : (0 : Int) ≤ (bg (l.take k) k : Int) := by omega
    have HB : Hid (bg (l.take k) k = bg l k) := bg_take l k k (Nat.le_refl _)
    clear hb hlen
    cases ao with
    | none =>
      obtain ⟨rfl, rfl, rfl⟩ := HT.out.none
      obtain rfl : k = 0 := by omega
      have hz : bg [] 0 = 0 := rfl
      go_enter Tryz.func130, Tryz.ntmps130
      go_wp2_with (first | (go_at_call 109; refine (isPlace_any _ _ _ _ _).mono ?_; rintro e w' ⟨rfl, hw⟩; subst hw) | (go_at_call 143; refine (lastIndexB_any _ _ _ [] _ (tx_nil _)).mono ?_; rintro e w2 ⟨rfl, hw⟩; subst hw))
      go_ret2
      exact ⟨by rw [HA.out]; rfl, rfl⟩
    | some a =>
      go_enter Tryz.func130, Tryz.ntmps130
      go_wp2_with (first | (go_at_call 109; refine (isPlace_any _ _ _ _ _).mono ?_; rintro e w' ⟨rfl, hw⟩; subst hw; rw [hp]) | (go_at_call 143; refine (lastIndexB_any _ _ _ (l.take k) _ (HT.out.head hkn)).mono ?_; rintro e w2 ⟨rfl, hw⟩; subst hw))
      go_ret2
      refine ⟨?_, rfl⟩
      rw [HA.out]
      have h1 := HB.out
      have e1 : ((k - bg l k : Nat) : Int) = (k : Int) - bg (l.take k) k := by omega
      rw [e1]
      rfl
  | false =>
    have hp : decide ((0 : Int) ≤ i ∧ i ≤ (n : Int)) = false := by rw [← hlen]; exact hb
    have HA : Hid (pr (aCol l i) = .returned (.tuple #[.int .i64 0, .int .i64 2])) := by unfold Hid pr aCol ans; rw [hb]; rfl
    clear hb
    go_enter Tryz.func130, Tryz.ntmps130
    go_wp2_with (go_at_call 109; refine (isPlace_any _ _ _ _ _).mono ?_; rintro e w' ⟨rfl, hw⟩; subst hw; rw [hp])
    go_ret2
    exact ⟨by rw [HA.out]; rfl, rfl⟩

end Go.Proofs.YtppefcnopkmhbaaGreatDoor

namespace Go.Proofs.YtppefcnopkmhbaaGreatDoor
open Go.RowKit

theorem le_of {l : List UInt8} {i : Nat} {b : Bool} (h : (((at8 l i).toNat : Int) == 10) = b) : le (at8 l i) = b := h

set_option maxHeartbeats 1000000 in
theorem refCount_any (ao : Option Addr) (n c : Nat) (l : List UInt8) (w : World) (HT : Hid (Tx w ao n c l)) :
    Calls Tryz.prog 51 #[.slice ao n c] w fun e w' => e = .returned (.int .i64 ((nl l : Int) + 1)) ∧ w' = w := by
  have hbig : (n : Int) ≤ 150000000000000 := by have := HT.out.big; omega
  have HL : Hid (l.length = n) := HT.out.len
  go_enter Tryz.func51, Tryz.ntmps51
  go_wp2_with fail
  go_loopw [3, 4] (fun u v wr => ∃ i : Nat, u = .int .i64 ((nl (l.take i) : Int) + 1) ∧ v = .int .i64 i ∧ i ≤ n ∧ wr = w) (fun _ v _ => n - (intOf v).toNat)
  case atStart => exact ⟨0, by rw [List.take_zero]; rfl, rfl, Nat.zero_le _, rfl⟩
  case round =>
    obtain ⟨i, rfl, rfl, hi, rfl⟩ := hrel
    by_cases hlt : i < n
    · obtain ⟨g, o, rfl, hc⟩ := HT.out.at (by omega)
      have hc0 := hc i hlt
      have hi0 : (0 : Int) ≤ (i : Int) := by omega
      have hin : (i : Int) < (n : Int) := by omega
      have hq : (nl (l.take i) : Int) ≤ i := by have h1 := nl_le (l.take i); have h2 : (l.take i).length ≤ i := List.length_take_le _ _; omega
      have hq0 : (0 : Int) ≤ (nl (l.take i) : Int) := by omega
      have HN := Hid.mk' (nl_take l i (by rw [HL.out]; exact hlt))
      clear hc
      cases h10 : (((at8 l i).toNat : Int) == 10) with
      | false =>
        have HN2 : Hid (nl (l.take (i + 1)) = nl (l.take i)) := by unfold Hid; rw [HN.out, le_of h10]; rfl
        go_wp2
        go_roundw
        case rel => exact ⟨i + 1, by rw [HN2.out], by go_num, by omega, by trivial⟩
        case measure => first | (simp [intOf]; done) | (simp [intOf]; omega)
      | true =>
        have HN2 : Hid (nl (l.take (i + 1)) = nl (l.take i) + 1) := by unfold Hid; rw [HN.out, le_of h10]; rfl
        go_wp2
        go_roundw
        case rel => exact ⟨i + 1, by rw [HN2.out]; go_num, by go_num, by omega, by trivial⟩
        case measure => first | (simp [intOf]; done) | (simp [intOf]; omega)
    · obtain rfl : i = n := by omega
      have HN : Hid (l.take i = l) := List.take_of_length_le (by rw [HL.out]; exact Nat.le_refl _)
      go_wp2
      go_ret
      exact ⟨by rw [HN.out]; rfl, rfl⟩

set_option maxHeartbeats 1000000 in
theorem refStart_any (ao : Option Addr) (n c : Nat) (L : Int) (l : List UInt8) (w : World) (h63 : L ≤ 9223372036854775807) (HT : Hid (Tx w ao n c l)) :
    Calls Tryz.prog 45 #[.slice ao n c, .int .i64 L] w fun e w' => e = pr (aStart l L) ∧ w' = w := by
  have hbig : (n : Int) ≤ 150000000000000 := by have := HT.out.big; omega
  have HL : Hid (l.length = n) := HT.out.len
  by_cases hneg : L < 0
  · have HA : Hid (pr (aStart l L) = .returned (.tuple #[.int .i64 0, .int .i64 2])) := by
      unfold Hid pr aStart ans lnB; rw [decide_eq_false (by omega)]; rfl
    go_enter Tryz.func45, Tryz.ntmps45
    go_wp2
    go_ret2
    exact ⟨by rw [HA.out]; rfl, rfl⟩
  obtain ⟨K, rfl⟩ := Int.eq_ofNat_of_zero_le (show 0 ≤ L by omega)
  have HY : Hid (∀ s, St l K s → pr (aStart l (K : Int)) = .returned (.tuple #[.int .i64 s, .int .i64 0])) := by
    intro s hs
    have := hs.low
    unfold pr aStart ans lnB
    rw [decide_eq_true (by omega), Int.toNat_natCast, sp_eq hs]; rfl
  have HZ : Hid (nl l < K → pr (aStart l (K : Int)) = .returned (.tuple #[.int .i64 0, .int .i64 2])) := by
    intro h
    unfold pr aStart ans lnB; rw [decide_eq_false (by omega)]; rfl
  clear hneg
  by_cases h0 : K = 0
  · subst h0
    go_enter Tryz.func45, Tryz.ntmps45
    go_wp2
    go_ret2
    exact ⟨by rw [HY.out 0 (St.zero l)]; rfl, rfl⟩
  have hK1 : (1 : Int) ≤ (K : Int) := by omega
  go_enter Tryz.func45, Tryz.ntmps45
  go_wp2_with fail
  go_loopw [1, 6] (fun u v wr => ∃ (m : Int) (i : Nat), u = .int .i64 m ∧ v = .int .i64 i ∧ m + nl (l.take i) = K ∧ 1 ≤ m ∧ i ≤ n ∧ wr = w) (fun _ v _ => n - (intOf v).toNat)
  case atStart => exact ⟨K, 0, rfl, rfl, by rw [List.take_zero, nl_nil]; omega, hK1, Nat.zero_le _, rfl⟩
  case round =>
    obtain ⟨m, i, rfl, rfl, hm, hm1, hi, rfl⟩ := hrel
    have HM : Hid (m + nl (l.take i) = K) := hm
    have hmb : m ≤ 9223372036854775807 := by omega
    clear hm
    by_cases hlt : i < n
    · obtain ⟨g, o, rfl, hc⟩ := HT.out.at (by omega)
      have hc0 := hc i hlt
      have hi0 : (0 : Int) ≤ (i : Int) := by omega
      have hin : (i : Int) < (n : Int) := by omega
      have HN := Hid.mk' (nl_take l i (by rw [HL.out]; exact hlt))
      clear hc
      cases h10 : (((at8 l i).toNat : Int) == 10) with
      | false =>
        have HN2 : Hid (nl (l.take (i + 1)) = nl (l.take i)) := by unfold Hid; rw [HN.out, le_of h10]; rfl
        go_wp2
        go_roundw
        case rel => exact ⟨m, i + 1, rfl, by go_num, by rw [HN2.out]; exact HM.out, hm1, by omega, by trivial⟩
        case measure => first | (simp [intOf]; done) | (simp [intOf]; omega)
      | true =>
        have HN2 : Hid (nl (l.take (i + 1)) = nl (l.take i) + 1) := by unfold Hid; rw [HN.out, le_of h10]; rfl
        by_cases hz : m = 1
        · subst hz
          have HS : Hid (St l K (i + 1)) := ⟨by rw [HL.out]; exact hlt, by rw [HN2.out]; have := HM.out; omega, .inr ⟨by omega, h10⟩⟩
          go_wp2
          go_ret2
          exact ⟨by rw [HY.out _ HS.out]; rfl, rfl⟩
        · have hz2 : (m - 1 == 0) = false := by rw [beq_eq_false_iff_ne]; omega
          have hz3 : ¬ (m - 1 = 0) := by omega
          go_wp2
          go_roundw
          case rel => exact ⟨m - 1, i + 1, rfl, by go_num, by rw [HN2.out]; have := HM.out; push_cast; omega, by omega, by omega, by trivial⟩
          case measure => first | (simp [intOf]; done) | (simp [intOf]; omega)
    · obtain rfl : i = n := by omega
      have HN : Hid (l.take i = l) := List.take_of_length_le (by rw [HL.out]; exact Nat.le_refl _)
      go_wp2
      go_ret2
      refine ⟨?_, rfl⟩
      rw [HZ.out (by have := HM.out; rw [HN.out] at this; omega)]
      rfl

end Go.Proofs.YtppefcnopkmhbaaGreatDoor

namespace Go.Proofs.YtppefcnopkmhbaaGreatDoor
open Go.RowKit

theorem pl_no {l : List UInt8} {n : Nat} {i : Int} (hl : l.length = n) (h : plB l i = false) : i < 0 ∨ (n : Int) < i := by
  have h := of_decide_eq_false h
  omega

set_option maxHeartbeats 1000000 in
theorem refOf_any (ao : Option Addr) (n c : Nat) (i : Int) (l : List UInt8) (w : World) (HT : Hid (Tx w ao n c l)) :
    Calls Tryz.prog 43 #[.slice ao n c, .int .i64 i] w fun e w' => e = pr (aOf l i) ∧ w' = w := by
  have hlen := HT.out.len
  have hbig : (n : Int) ≤ 150000000000000 := by have := HT.out.big; omega
  cases hb : plB l i with
  | true =>
    obtain ⟨k, rfl, hk⟩ := pl_yes hb
    have HA : Hid (pr (aOf l (k : Int)) = .returned (.tuple #[.int .i64 (nl (l.take k)), .int .i64 0])) := by unfold Hid pr aOf ans; rw [hb]; rfl
    have hkn : k ≤ n := by omega
    have hk0 : ¬ (k : Int) < 0 := by omega
    have hk1 : ¬ (k : Int) > (n : Int) := by omega
    have hcap := HT.out.cap
    have hq : (nl (l.take k) : Int) ≤ k := by have h1 := nl_le (l.take k); have h2 : (l.take k).length ≤ k := List.length_take_le _ _; omega
    have hq0 : (0 : Int) ≤ (nl (l.take k) : Int) := by omega
    clear hb hlen
    cases ao with
    | none =>
      obtain ⟨rfl, rfl, rfl⟩ := HT.out.none
      obtain rfl : k = 0 := by omega
      have hz : nl [] = 0 := rfl
      go_enter Tryz.func43, Tryz.ntmps43
      go_wp2_with (go_at_call 51; refine (refCount_any _ _ _ [] _ (tx_nil _)).mono ?_; rintro e w2 ⟨rfl, hw⟩; subst hw)
      go_ret2
      exact ⟨by rw [HA.out]; rfl, rfl⟩
    | some a =>
      go_enter Tryz.func43, Tryz.ntmps43
      go_wp2_with (go_at_call 51; refine (refCount_any _ _ _ (l.take k) _ (HT.out.head hkn)).mono ?_; rintro e w2 ⟨rfl, hw⟩; subst hw)
      go_ret2
      exact ⟨by rw [HA.out]; rfl, rfl⟩
  | false =>
    have hno := pl_no hlen hb
    have HA : Hid (pr (aOf l i) = .returned (.tuple #[.int .i64 0, .int .i64 2])) := by unfold Hid pr aOf ans; rw [hb]; rfl
    clear hb
    by_cases h0 : i < 0
    · go_enter Tryz.func43, Tryz.ntmps43
      go_wp2
      go_ret2
      exact ⟨by rw [HA.out]; rfl, rfl⟩
    · have h1 : (n : Int) < i := by omega
      clear hno
      go_enter Tryz.func43, Tryz.ntmps43
      go_wp2
      go_ret2
      exact ⟨by rw [HA.out]; rfl, rfl⟩

theorem lb_lt {s e : Nat} (h : s < e) : (lb s e : Int) = (e : Int) - 1 := by unfold lb; omega
theorem lb_eq {s e : Nat} (h : s = e) : lb s e = s := by unfold lb; omega

end Go.Proofs.YtppefcnopkmhbaaGreatDoor

namespace Go.Proofs.YtppefcnopkmhbaaGreatDoor
open Go.RowKit

theorem own_keep {w w' : World} {base e size n : Nat} {v : Value} {xs : List Value} (h : w.ownsRow base e size v n xs) (hb : Below w.heap.size w w') : w'.ownsRow base e size v n xs := by
  refine ⟨h.1, ?_⟩
  rcases h.2 with h0 | ⟨g, cap, cur, rfl, hb', hg, rest⟩
  · exact .inl h0
  · exact .inr ⟨g, cap, cur, rfl, hb', by rw [hb.block g (Array.getElem?_eq_some_iff.1 hg).1]; exact hg, rest⟩
theorem own_lower {w : World} {base base' e size n : Nat} {v : Value} {xs : List Value} (h : w.ownsRow base e size v n xs) (hb : base' ≤ base) : w.ownsRow base' e size v n xs := by
  refine ⟨h.1, ?_⟩
  rcases h.2 with h0 | ⟨g, cap, cur, rfl, hb', rest⟩
  · exact .inl h0
  · exact .inr ⟨g, cap, cur, rfl, by omega, rest⟩
theorem own_shape {w : World} {base e size n : Nat} {v : Value} {xs : List Value} (h : w.ownsRow base e size v n xs) : ∃ ao cap, v = .slice ao n cap := by
  rcases h.2 with ⟨rfl, rfl⟩ | ⟨g, cap, cur, rfl, _⟩
  · exact ⟨_, _, rfl⟩
  · exact ⟨_, _, rfl⟩
theorem lit_cells (w : World) (cs : Array Value) (e : TypeId) (j : Nat) (u : Value) (h : cs.toList[j]? = some u) : (w.alloc (.cells cs e)).cell? ((⟨w.heap.size, 0, none⟩ : Addr).add j) = some u := by
  rw [add_none, Nat.zero_add, World.cell?_alloc_mark, ← Array.getElem?_toList]; exact h

/-- a and b lie in no block together -/
def Far (a b : Value) : Prop := ∀ g, a.ownBlock = some g → b.ownBlock = some g → False
theorem Far.symm {a b : Value} (h : Far a b) : Far b a := fun g h1 h2 => h g h2 h1
theorem Far.ne {a b : Value} (h : Far a b) : a.ownBlock = none ∨ a.ownBlock ≠ b.ownBlock := by
  cases ha : a.ownBlock with
  | none => exact .inl rfl
  | some g => exact .inr fun e => h g ha e.symm
theorem Far.of {a b : Value} (h : a.ownBlock = none ∨ a.ownBlock ≠ b.ownBlock) : Far a b := fun g h1 h2 => by
  rcases h with h | h
  · rw [h] at h1; cases h1
  · exact h (h1.trans h2.symm)
structure Rw where
  t : Nat
  s : Nat
  v : Value
  n : Nat
  xs : List Value

/-- cells that can be appended -/
def Srv (w : World) (u : Value) (m : Nat) (news : List Value) : Prop := (u = .slice none 0 0 ∧ m = 0 ∧ news = []) ∨ ∃ ad c, u = .slice (some ad) m c ∧ ∀ (j : Nat) (t : Value), news[j]? = some t → w.cell? (ad.add j) = some t
theorem own_srv {w : World} {base e s n : Nat} {v : Value} {xs : List Value} (h : w.ownsRow base e s v n xs) : Srv w v n xs := by
  rcases h.2 with ⟨rfl, h0⟩ | ⟨g, cap, cur, rfl, hb, hg, _⟩
  · subst h0
    exact .inl ⟨rfl, rfl, List.eq_nil_of_length_eq_zero (by have := h.1; omega)⟩
  · exact .inr ⟨⟨g, 0, none⟩, cap, rfl, h.cells rfl⟩
theorem Srv.keep {w w' : World} {u : Value} {m : Nat} {news : List Value} (h : Srv w u m news) (hb : Below w.heap.size w w') : Srv w' u m news := by
  rcases h with h | ⟨ad, c, hu, h⟩
  · exact .inl h
  · refine .inr ⟨ad, c, hu, fun j t hj => ?_⟩
    have hc := h j t hj
    rw [hb.cell (World.block_lt_of_cell? w _ hc)]; exact hc
/-- append of whatever there is, to a list that is owned -/
theorem append_srv {w : World} {ops : Array Oper} {rest : List Oper} {o : Oper} {a : Act} {Q : Exit → Act → World → Prop} (hgd : o.guard = none) (s x : Operand) (t : Nat)
    (ho : o.op = .call { callee := .builtin .append, args := #[s, x], argTypes := #[t, t] })
    (base e : Nat) (i : TypeInfo) (z : Value) (size bytes : Nat) (ht : Tryz.prog.underlying t = some (.slice e)) (hi : Tryz.prog.info? e = some i) (hz : i.zero = some z) (hsize : i.size = size) (hby : i.bytes = bytes) (hzs : z.cells.size = size) (hsz : 0 < size)
    (v : Value) (n : Nat) (xs : List Value) (hs : a.eval s = v) (hown : w.ownsRow base e size v n xs)
    (u : Value) (m : Nat) (news : List Value) (hx : a.eval x = u) (hsrc : Srv w u m news) (hl : news.length = m * size)
    (h1 : ∀ u ∈ news, u.oneCell' = true) (h63 : n + m ≤ maxLen) (hb : (n + m) * bytes ≤ 140737488355328) (hbase : base ≤ w.heap.size)
    (h : ∀ v' w', w'.ownsRow base e size v' (n + m) (xs ++ news) → w.grownBy w' v.ownBlock → (v'.ownBlock = v.ownBlock ∨ ∃ q, v'.ownBlock = some q ∧ w.heap.size ≤ q) → wpList Tryz.prog ops Q rest (a.put o.dst v') w') :
    wpList Tryz.prog ops Q (o :: rest) a w := by
  rcases hsrc with ⟨hu, h0, h2⟩ | ⟨ad, c, hu, hcell⟩
  · subst hu h0 h2
    refine wpList_plain hgd fun K hK => ?_
    have hrun := run_append_owned_none (P := Tryz.prog) (w := w) base t o.type e i size ht hi v n xs hown
    unfold Oper.wp
    simp [execOp, ho, resolve, invoke, builtin, hs, hx, hrun, Result.andThen]
    exact hK _ _ (h v w (by simpa using hown) ⟨rfl, rfl, rfl, Nat.le_refl _, fun _ _ _ => rfl⟩ (.inl rfl))
  · subst hu
    refine wpList_append_own_at _ hgd s x t ho base e i z size bytes ht hi hz hsize hby hzs hsz v n xs hs hown ad m c news hx hl hcell h1 h63 hb hbase ?_
    intro v' w' g1 g2 _ g4
    refine h v' w' g1 g2 ?_
    rcases g4 with e | e
    · exact .inl e
    · exact .inr ⟨_, e, Nat.le_refl _⟩
end Go.Proofs.YtppefcnopkmhbaaGreatDoor

namespace Go.Proofs.YtppefcnopkmhbaaGreatDoor
open Go.RowKit

/-- bytes as cells -/
def bv (l : List UInt8) : List Value := l.map fun b => Value.int .u8 (b.toNat : Int)
theorem bv_length (l : List UInt8) : (bv l).length = l.length := by simp [bv]
theorem bv_at (l : List UInt8) (j : Nat) (h : j < l.length) : (bv l)[j]? = some (.int .u8 ((at8 l j).toNat : Int)) := by simp [bv, at8, h]
theorem bv_one (l : List UInt8) : ∀ u ∈ bv l, u.oneCell' = true := by
  intro u hu; obtain ⟨x, _, rfl⟩ := List.mem_map.1 hu; rfl
theorem info5 : (Tryz.prog.info? 5).map (fun i => (i.zero, i.size, i.bytes)) = some (some (.int .u8 0), 1, 1) := by kernel_rfl
theorem Tx.srv {w : World} {ao : Option Addr} {n c : Nat} {l : List UInt8} (h : Tx w ao n c l) : Srv w (.slice ao n c) n (bv l) := by
  cases ao with
  | none =>
    obtain ⟨rfl, rfl, rfl⟩ := h.none
    exact .inl ⟨rfl, rfl, rfl⟩
  | some a =>
    refine .inr ⟨a, c, rfl, fun j t hj => ?_⟩
    have hlt := (List.getElem?_eq_some_iff.1 hj).1
    rw [bv_length] at hlt
    rw [bv_at l j hlt] at hj
    rw [← hj]
    exact h.cells a rfl j (by rw [← h.len]; exact hlt)
theorem own_some {w : World} {base e size n : Nat} {v : Value} {xs : List Value} (h : w.ownsRow base e size v n xs) (hn : 1 ≤ n) : ∃ g cap, v = .slice (some ⟨g, 0, none⟩) n cap ∧ n ≤ cap ∧ cap ≤ maxLen := by
  rcases h.2 with ⟨_, h0⟩ | ⟨g, cap, cur, rfl, _, _, h1, h2, _⟩
  · omega
  · exact ⟨g, cap, rfl, h1, h2⟩
theorem conv_tx {W : World} {ao : Option Addr} {n c : Nat} {l : List UInt8} (h : Tx W ao n c l) : (convert 22 9 (.slice ao n c)).run Tryz.prog W = .ok (.string ⟨l.toArray⟩) W := by
  cases ao with
  | none =>
    obtain ⟨rfl, rfl, rfl⟩ := h.none
    exact Lib.run_convert_nil_bytes W 22 9 5 0 Tryz.underlying22 Tryz.underlying5 Tryz.underlying9
  | some a =>
    have := run_convert_bytes_back W 22 9 5 a c l Tryz.underlying22 Tryz.underlying5 Tryz.underlying9 (fun j hj => by rw [h.cells a rfl j (by rw [← h.len]; exact hj), at8_eq hj])
    rwa [h.len] at this
def mk2 : List Value := [.int .u8 77, .int .u8 78]
/-- what was lent reads as the text -/
theorem lent_tx {w : World} {g cap base n : Nat} {l : List UInt8} (hl : l.length = n) (hb : n ≤ 150000000000000) (h : w.ownsRow base 5 1 (.slice (some ⟨g, 0, none⟩) (n + 2) cap) (n + 2) (bv l ++ mk2)) : Tx w (some ⟨g, 0, none⟩) n cap l := by
  obtain ⟨g', cap', hv, hc1, hc2⟩ := own_some h (by omega)
  have hcap : n + 2 ≤ cap := by simp at hv; omega
  refine ⟨hl, by omega, hb, (fun h => by cases h), fun a ha j hj => ?_⟩
  obtain rfl : (⟨g, 0, none⟩ : Addr) = a := by simpa using ha
  rw [add_none, Nat.zero_add, h.cellAt j (by omega), List.getElem?_append_left (by rw [bv_length]; omega)]
  exact bv_at l j (by omega)

end Go.Proofs.YtppefcnopkmhbaaGreatDoor

namespace Go.Proofs.YtppefcnopkmhbaaGreatDoor
open Go.RowKit

theorem info22 : (Tryz.prog.info? 22).map (fun i => (i.zero, i.size, i.bytes)) = some (some (.slice none 0 0), 1, 24) := by kernel_rfl

/-- line number i -/
def ln (l : List UInt8) (i : Nat) : List UInt8 := (l.drop (sp l i)).take (en l (sp l i) - sp l i)
theorem Tx.mid {w : World} {ao : Option Addr} {n c s e : Nat} {l : List UInt8} (h : Tx w ao (n - s) c (l.drop s)) (he : e ≤ n) (hs : s ≤ e) : Tx w ao (e - s) c ((l.drop s).take (e - s)) := h.head (by omega)
end Go.Proofs.YtppefcnopkmhbaaGreatDoor
