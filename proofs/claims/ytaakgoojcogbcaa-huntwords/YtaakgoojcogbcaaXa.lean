/- The contracts of lines.isPlace, lastByte, isBlank, endFrom and startOf. -/
import Derived.Test.YtaakgoojcogbcaaKit
namespace Go.Proofs.Ytaakgoojcogbcaa
open Go.RowKit

theorem at8_drop (l : List UInt8) (s j : Nat) : at8 (l.drop s) j = at8 l (s + j) := by simp [at8, List.getD]
theorem add_add (a : Addr) (l j : Nat) (hl : 0 < l) : (a.add l).add j = a.add (l + j) := by
  unfold Addr.add
  by_cases hj : j = 0
  · subst hj; simp
  · rw [if_neg hj, if_neg (by omega), if_neg (by omega)]; simp; omega
theorem Tx.tail0 {w : World} {a : Addr} {n c s : Nat} {l : List UInt8} (h : Tx w (some a) n c l) (hs : s ≤ n) (hc : c = s) : Tx w (some a) (n - s) 0 (l.drop s) :=
  ⟨by rw [List.length_drop, h.len], by have := h.cap; omega, by have := h.big; omega, fun _ => rfl, fun _ _ j hj => by have := h.cap; omega⟩
theorem Tx.tail {w : World} {a : Addr} {n c s : Nat} {l : List UInt8} (h : Tx w (some a) n c l) (hs : s ≤ n) : Tx w (some (a.add s)) (n - s) (c - s) (l.drop s) := by
  refine ⟨by rw [List.length_drop, h.len], by have := h.cap; omega, by have := h.big; omega, fun h => by simp at h, fun a' ha j hj => ?_⟩
  have e : a.add s = a' := by simpa using ha
  subst e
  rw [at8_drop]
  rcases Nat.eq_zero_or_pos s with h0 | h0
  · subst h0
    have := h.cells a rfl j (by omega)
    simpa [Addr.add] using this
  · rw [add_add a s j h0]
    exact h.cells a rfl (s + j) (by omega)
theorem ix_cases {n s : Nat} {l : List UInt8} (hl : l.length = n) (hs : s ≤ n) :
    (∃ k : Nat, ixI (l.drop s) (n - s) = k ∧ en l s = s + k ∧ s + k < n) ∨ (ixI (l.drop s) (n - s) = -1 ∧ en l s = n) := by
  have h1 : (l.drop s).findIdx le ≤ (l.drop s).length := List.findIdx_le_length
  rw [List.length_drop, hl] at h1
  unfold ixI en
  by_cases h : (l.drop s).findIdx le < n - s
  · exact .inl ⟨_, if_pos h, rfl, by omega⟩
  · exact .inr ⟨if_neg h, by omega⟩

theorem index_at {ao : Option Addr} {n c s : Nat} {l : List UInt8} (r : Int) (w : World) (h : Tx w ao n c (l.drop s)) (hr : ixI (l.drop s) n = r) :
    Calls Try.prog 77 #[.slice ao n c, .int .u8 10] w fun e w' => e = .returned (.int .i64 r) ∧ w' = w := by
  have := index_any ao n c (l.drop s) w h
  rwa [hr] at this

set_option maxHeartbeats 400000 in
theorem endFrom_any (ao : Option Addr) (n c s : Nat) (l : List UInt8) (w : World) (hs : s ≤ n) (HT : Hid (Tx w ao n c l)) :
    Calls Try.prog 47 #[.slice ao n c, .int .i64 s] w fun e w' => e = .returned (.int .i64 (en l s)) ∧ w' = w := by
  cases ao with
  | none =>
    obtain ⟨rfl, rfl, rfl⟩ := HT.out.none
    obtain rfl : s = 0 := by omega
    have he : en [] 0 = 0 := rfl
    go_enter Try.func47, Try.ntmps47
    go_wp2_with (go_at_call 77; refine (index_at (s := 0) (l := []) (-1) w HT.out rfl).mono ?_; rintro e w' ⟨rfl, hw⟩; subst hw)
    go_ret
    exact ⟨rfl, rfl⟩
  | some a =>
    have hcap := HT.out.cap
    have hbig : (n : Int) ≤ 140737488355328 := by have := HT.out.big; omega
    have hs' : (s : Int) ≤ n := by omega
    rcases ix_cases HT.out.len hs with ⟨k, hi, he, hk⟩ | ⟨hi, he⟩
    · have HI : Hid (ixI (l.drop s) (n - s) = k) := hi
      have HE : Hid (en l s = s + k) := he
      have hk' : (s : Int) + k < n := by omega
      clear hi he
      go_enter Try.func47, Try.ntmps47
      go_wp2_with (go_at_call 77; refine (index_at (s := s) (l := l) (k : Int) w (by first | exact HT.out.tail hs | exact HT.out.tail0 hs rfl | (exact HT.out.tail0 hs (by assumption))) HI.out).mono ?_; rintro e w' ⟨rfl, hw⟩; subst hw)
      all_goals go_ret
      all_goals (refine ⟨?_, rfl⟩; rw [HE.out]; push_cast; first | rfl | (congr 2; omega))
    · have HI : Hid (ixI (l.drop s) (n - s) = -1) := hi
      have HE : Hid (en l s = n) := he
      clear hi he
      go_enter Try.func47, Try.ntmps47
      go_wp2_with (go_at_call 77; refine (index_at (s := s) (l := l) (-1) w (by first | exact HT.out.tail hs | exact HT.out.tail0 hs rfl | (exact HT.out.tail0 hs (by assumption))) HI.out).mono ?_; rintro e w' ⟨rfl, hw⟩; subst hw)
      all_goals go_ret
      all_goals (refine ⟨?_, rfl⟩; rw [HE.out]; rfl)

set_option maxHeartbeats 400000 in
theorem isPlace_any (ao : Option Addr) (n c : Nat) (i : Int) (w : World) :
    Calls Try.prog 95 #[.slice ao n c, .int .i64 i] w fun e w' => e = .returned (.bool (decide (0 ≤ i ∧ i ≤ n))) ∧ w' = w := by
  by_cases h0 : 0 ≤ i
  · by_cases h1 : i ≤ n
    · have hd : decide (0 ≤ i ∧ i ≤ n) = true := decide_eq_true ⟨h0, h1⟩
      rw [hd]
      go_enter Try.func95, Try.ntmps95
      go_wp2
      go_ret
      exact ⟨rfl, rfl⟩
    · have hd : decide (0 ≤ i ∧ i ≤ n) = false := decide_eq_false (fun h => h1 h.2)
      rw [hd]
      go_enter Try.func95, Try.ntmps95
      go_wp2
      go_ret
      exact ⟨rfl, rfl⟩
  · have hd : decide (0 ≤ i ∧ i ≤ n) = false := decide_eq_false (fun h => h0 h.1)
    rw [hd]
    go_enter Try.func95, Try.ntmps95
    go_wp2
    go_ret
    exact ⟨rfl, rfl⟩

/-- the last byte of a line, or its start -/
def lb (s e : Nat) : Nat := max s (e - 1)
/-- is a byte a blank -/
def bl (b : UInt8) : Bool := ((b.toNat : Int) == 32) || ((b.toNat : Int) == 9)
end Go.Proofs.Ytaakgoojcogbcaa
/- The contracts of lines.Start, End, Of, Column, At and First. -/
namespace Go.Proofs.Ytaakgoojcogbcaa
open Go.RowKit

/-- is there a line of this number -/
def lnB (l : List UInt8) (L : Int) : Bool := decide (0 ≤ L ∧ L ≤ nl l)
/-- is there a place of this number -/
def plB (l : List UInt8) (i : Int) : Bool := decide (0 ≤ i ∧ i ≤ l.length)
/-- an answer and its error -/
def ans (b : Bool) (x : Nat) : Int × Int := if b then (x, 0) else (0, 2)
def aStart (l : List UInt8) (L : Int) : Int × Int := ans (lnB l L) (sp l L.toNat)
def aEnd (l : List UInt8) (L : Int) : Int × Int := ans (lnB l L) (en l (sp l L.toNat))
def aOf (l : List UInt8) (i : Int) : Int × Int := ans (plB l i) (nl (l.take i.toNat))
def aCol (l : List UInt8) (i : Int) : Int × Int := ans (plB l i) (i.toNat - bg l i.toNat)
/-- the first byte that is no blank, of the next d from i on; else z -/
def fb (l : List UInt8) (z : Nat) : Nat → Nat → Nat
  | 0, _ => z
  | d + 1, i => if bl (at8 l i) then fb l z d (i + 1) else i
def aFirst (l : List UInt8) (L : Int) : Int × Int := ans (lnB l L) (fb l (lb (sp l L.toNat) (en l (sp l L.toNat))) (en l (sp l L.toNat) - sp l L.toNat) (sp l L.toNat))
/-- the place of a column of the line from s to e -/
def pc (s e : Nat) (c : Int) : Nat := if 0 ≤ c ∧ c < (e : Int) - s then s + c.toNat else lb s e
def aAt (l : List UInt8) (L c : Int) : Int × Int := ans (lnB l L && decide (-1 ≤ c)) (pc (sp l L.toNat) (en l (sp l L.toNat)) c)
/-- a pair as a call gives it -/
def pr (x : Int × Int) : Ending := .returned (.tuple #[.int .i64 x.1, .int .i64 x.2])

theorem ln_yes {l : List UInt8} {L : Int} (h : lnB l L = true) : ∃ k : Nat, L = k ∧ k ≤ nl l := by
  have h := of_decide_eq_true h
  obtain ⟨k, rfl⟩ := Int.eq_ofNat_of_zero_le h.1
  exact ⟨k, rfl, by omega⟩
theorem ln_no {l : List UInt8} {L : Int} (h : lnB l L = false) : L < 0 ∨ (nl l : Int) < L := by
  have h := of_decide_eq_false h
  omega
theorem pl_yes {l : List UInt8} {L : Int} (h : plB l L = true) : ∃ k : Nat, L = k ∧ k ≤ l.length := by
  have h := of_decide_eq_true h
  obtain ⟨k, rfl⟩ := Int.eq_ofNat_of_zero_le h.1
  exact ⟨k, rfl, by omega⟩
theorem lb_le {s e : Nat} (h : s ≤ e) : lb s e ≤ e := by unfold lb; omega

theorem Tx.head {w : World} {ao : Option Addr} {n c i : Nat} {l : List UInt8} (h : Tx w ao n c l) (hi : i ≤ n) : Tx w ao i c (l.take i) := by
  refine ⟨by rw [List.length_take, h.len]; omega, by have := h.cap; omega, by have := h.big; omega, h.nil, fun a ha j hj => ?_⟩
  rw [h.cells a ha j (by omega)]
  have : at8 (l.take i) j = at8 l j := by simp [at8, List.getD, hj]
  rw [this]

theorem bg_take (l : List UInt8) (m : Nat) : ∀ i, i ≤ m → bg (l.take m) i = bg l i
  | 0, _ => rfl
  | i + 1, h => by
    have e : at8 (l.take m) i = at8 l i := by simp [at8, List.getD, show i < m by omega]
    unfold bg
    rw [e, bg_take l m i (by omega)]

set_option maxHeartbeats 1000000 in
theorem lastIndex_any (ao : Option Addr) (n c : Nat) (l : List UInt8) (w : World) (HT : Hid (Tx w ao n c l)) :
    Calls Try.prog 104 #[.slice ao n c, .int .u8 10] w fun e w' => e = .returned (.int .i64 ((bg l n : Int) - 1)) ∧ w' = w := by
  have hbig : (n : Int) ≤ 140737488355328 := by have := HT.out.big; omega
  go_enter Try.func104, Try.ntmps104
  go_wp2_with fail
  go_loopw [5] (fun u wr => ∃ j : Nat, u = .int .i64 ((j : Int) - 1) ∧ j ≤ n ∧ bg l n = bg l j ∧ wr = w) (fun u _ => (intOf u + 1).toNat)
  case atStart => exact ⟨n, rfl, Nat.le_refl _, rfl, rfl⟩
  case round =>
    obtain ⟨j, rfl, hj, hbg, rfl⟩ := hrel
    have HG : Hid (bg l n = bg l j) := hbg
    clear hbg
    cases j with
    | zero =>
      go_wp2
      go_ret
      exact ⟨by rw [HG.out]; rfl, rfl⟩
    | succ i =>
      obtain ⟨g, o, rfl, hc⟩ := HT.out.at (by omega)
      have hc0 := hc i (by omega)
      have hi0 : (0 : Int) ≤ (i : Int) := by omega
      have hin : (i : Int) < (n : Int) := by omega
      have e0 : ((i + 1 : Nat) : Int) - 1 = (i : Int) := by omega
      rw [e0]
      clear hc
      cases h10 : (((at8 l i).toNat : Int) == 10) with
      | true =>
        have HB : Hid (bg l (i + 1) = i + 1) := by unfold Hid bg; rw [if_pos (show le (at8 l i) = true from h10)]
        go_wp2
        go_ret
        refine ⟨?_, rfl⟩
        rw [HG.out, HB.out]
        rw [e0]
        rfl
      | false =>
        have HB : Hid (bg l (i + 1) = bg l i) := by unfold Hid; conv => lhs; unfold bg
                                                    rw [if_neg (by unfold le; rw [h10]; simp)]
        go_wp2
        go_roundw
        case rel => exact ⟨i, by go_num, by omega, by rw [HG.out, HB.out], by trivial⟩
        case measure => first | (simp [intOf]; done) | (simp [intOf]; omega)

set_option maxHeartbeats 400000 in
theorem lastIndexB_any (ao : Option Addr) (n c : Nat) (l : List UInt8) (w : World) (HT : Hid (Tx w ao n c l)) :
    Calls Try.prog 96 #[.slice ao n c, .int .u8 10] w fun e w' => e = .returned (.int .i64 ((bg l n : Int) - 1)) ∧ w' = w := by
  go_enter Try.func96, Try.ntmps96
  go_wp2_with (go_at_call 104; refine (lastIndex_any _ _ _ l _ HT).mono ?_; rintro e w' ⟨rfl, hw⟩; subst hw)
  go_ret
  exact ⟨rfl, rfl⟩

set_option maxHeartbeats 400000 in
theorem column_any (ao : Option Addr) (n c : Nat) (i : Int) (l : List UInt8) (w : World) (HT : Hid (Tx w ao n c l)) :
    Calls Try.prog 87 #[.slice ao n c, .int .i64 i] w fun e w' => e = pr (aCol l i) ∧ w' = w := by
  have hlen := HT.out.len
  cases hb : plB l i with
  | true =>
    obtain ⟨k, rfl, hk⟩ := pl_yes hb
    have hp : decide ((0 : Int) ≤ (k : Int) ∧ (k : Int) ≤ n) = true := decide_eq_true (by omega)
    have HA : Hid (pr (aCol l (k : Int)) = .returned (.tuple #[.int .i64 ((k - bg l k : Nat) : Int), .int .i64 0])) := by unfold Hid pr aCol ans; rw [hb]; rfl
    have hkn : k ≤ n := by omega
    have hcap := HT.out.cap
    have hbig : (n : Int) ≤ 140737488355328 := by have := HT.out.big; omega
    have hbk : (bg (l.take k) k : Int) ≤ k := by have := bg_le (l.take k) k; omega
    have hb0 : (0 : Int) ≤ (bg (l.take k) k : Int) := by omega
    have HB : Hid (bg (l.take k) k = bg l k) := bg_take l k k (Nat.le_refl _)
    clear hb hlen
    cases ao with
    | none =>
      obtain ⟨rfl, rfl, rfl⟩ := HT.out.none
      obtain rfl : k = 0 := by omega
      have hz : bg [] 0 = 0 := rfl
      go_enter Try.func87, Try.ntmps87
      go_wp2_with (first | (go_at_call 95; refine (isPlace_any _ _ _ _ _).mono ?_; rintro e w' ⟨rfl, hw⟩; subst hw) | (go_at_call 96; refine (lastIndexB_any _ _ _ [] _ (tx_nil _)).mono ?_; rintro e w2 ⟨rfl, hw⟩; subst hw))
      go_ret2
      exact ⟨by rw [HA.out]; rfl, rfl⟩
    | some a =>
      go_enter Try.func87, Try.ntmps87
      go_wp2_with (first | (go_at_call 95; refine (isPlace_any _ _ _ _ _).mono ?_; rintro e w' ⟨rfl, hw⟩; subst hw; rw [hp]) | (go_at_call 96; refine (lastIndexB_any _ _ _ (l.take k) _ (HT.out.head hkn)).mono ?_; rintro e w2 ⟨rfl, hw⟩; subst hw))
      go_ret2
      refine ⟨?_, rfl⟩
      rw [HA.out]
      have h1 := HB.out
      have e1 : ((k - bg l k : Nat) : Int) = (k : Int) - bg (l.take k) k := by omega
      rw [e1]
      rfl
  | false =>
    have hp : decide ((0 : Int) ≤ i ∧ i ≤ (n : Int)) = false := by rw [← hlen]; exact hb
    have HA : Hid (pr (aCol l i) = .returned (.tuple #[.int .i64 0, .int .i64 2])) := by unfold Hid pr aCol ans; rw [hb]; rfl
    clear hb
    go_enter Try.func87, Try.ntmps87
    go_wp2_with (go_at_call 95; refine (isPlace_any _ _ _ _ _).mono ?_; rintro e w' ⟨rfl, hw⟩; subst hw; rw [hp])
    go_ret2
    exact ⟨by rw [HA.out]; rfl, rfl⟩

end Go.Proofs.Ytaakgoojcogbcaa
/- The contract of lines.Rest. -/
namespace Go.Proofs.Ytaakgoojcogbcaa
open Go.RowKit

/-- where a cursor rests that is brought to a place -/
def rs (l : List UInt8) (i : Nat) : Nat := if (i < l.length ∧ le (at8 l i) = false) ∨ bg l i = i then i else i - 1
/-- a number as a place -/
def cl (l : List UInt8) (i : Int) : Nat := if i < 0 then 0 else if (l.length : Int) < i then l.length else i.toNat
theorem cl_le (l : List UInt8) (i : Int) : cl l i ≤ l.length := by unfold cl; split; omega; split <;> omega
theorem cl_eq (l : List UInt8) (i : Int) : min (max i 0) (l.length : Int) = (cl l i : Int) := by unfold cl; split; omega; split <;> omega

theorem bg_yes {l : List UInt8} {k : Nat} (h : 0 < k) (hp : (((at8 l (k - 1)).toNat : Int) == 10) = true) : bg l k = k := by
  obtain ⟨j, rfl⟩ : ∃ j, k = j + 1 := ⟨k - 1, by omega⟩
  unfold bg
  rw [if_pos (show le (at8 l j) = true from hp)]
theorem bg_no {l : List UInt8} {k : Nat} (h : 0 < k) (hp : (((at8 l (k - 1)).toNat : Int) == 10) = false) : bg l k ≠ k := by
  obtain ⟨j, rfl⟩ : ∃ j, k = j + 1 := ⟨k - 1, by omega⟩
  unfold bg
  rw [if_neg (by rw [show le (at8 l j) = false from hp]; simp)]
  have := bg_le l j
  omega

set_option maxHeartbeats 1000000 in
theorem rest_zero (ao : Option Addr) (c : Nat) (i : Int) (w : World) (h1 : -9223372036854775808 ≤ i) (h2 : i ≤ 9223372036854775807) :
    Calls Try.prog 25 #[.slice ao 0 c, .int .i64 i] w fun e w' => e = .returned (.int .i64 0) ∧ w' = w := by
  have hm : min (max i 0) (0 : Int) = 0 := by omega
  go_enter Try.func25, Try.ntmps25
  go_wp2
  all_goals go_ret
  all_goals exact ⟨rfl, rfl⟩

set_option maxHeartbeats 1000000 in
theorem rest_at (g o n c k : Nat) (i : Int) (l : List UInt8) (w : World) (hi : min (max i 0) (n : Int) = (k : Int)) (hk : k ≤ n) (hl : l.length = n) (hn : 0 < n) (hbig : (n : Int) ≤ 140737488355328) (hc : Hid (∀ j, j < n → w.cell? ⟨g, o + j, none⟩ = some (.int .u8 ((at8 l j).toNat : Int)))) :
    Calls Try.prog 25 #[.slice (some ⟨g, o, none⟩) n c, .int .i64 i] w fun e w' => e = .returned (.int .i64 (rs l k)) ∧ w' = w := by
  have hk' : (k : Int) ≤ n := by omega
  have hk0 : (0 : Int) ≤ k := by omega
  by_cases hkn : k < n
  · have c1 := hc.out k hkn
    have hkn' : (k : Int) < n := by omega
    cases h10 : (((at8 l k).toNat : Int) == 10) with
    | false =>
      have HR : Hid (rs l k = k) := by unfold Hid rs; rw [if_pos (.inl ⟨by omega, h10⟩)]
      have hne : (((at8 l k).toNat : Int) != 10) = true := by simp only [bne, h10]; rfl
      by_cases hz : k = 0
      · subst hz
        have c0 : w.cell? ⟨g, o, none⟩ = some (.int .u8 ((at8 l 0).toNat : Int)) := c1
        have hi0 : min (max i 0) (n : Int) = 0 := hi
        clear hi
        go_enter Try.func25, Try.ntmps25
        go_wp2
        go_ret
        exact ⟨by rw [HR.out]; rfl, rfl⟩
      · have c2 := hc.out (k - 1) (by omega)
        have hz1 : (1 : Int) ≤ (k : Int) := by omega
        have hz2 : (k : Int) - 1 < (n : Int) := by omega
        cases hp : (((at8 l (k - 1)).toNat : Int) == 10) <;>
        · go_enter Try.func25, Try.ntmps25
          go_wp2
          go_ret
          exact ⟨by rw [HR.out]; rfl, rfl⟩
    | true =>
      have hne : (((at8 l k).toNat : Int) != 10) = false := by simp only [bne, h10]; rfl
      by_cases hz : k = 0
      · have HR : Hid (rs l k = k) := by unfold Hid rs; rw [if_pos (.inr (by rw [hz]; rfl))]
        subst hz
        have c0 : w.cell? ⟨g, o, none⟩ = some (.int .u8 ((at8 l 0).toNat : Int)) := c1
        have hi0 : min (max i 0) (n : Int) = 0 := hi
        clear hi
        go_enter Try.func25, Try.ntmps25
        go_wp2
        go_ret
        exact ⟨by rw [HR.out]; rfl, rfl⟩
      · have c2 := hc.out (k - 1) (by omega)
        have hz1 : (1 : Int) ≤ (k : Int) := by omega
        have hz2 : (k : Int) - 1 < (n : Int) := by omega
        cases hp : (((at8 l (k - 1)).toNat : Int) == 10) with
        | true =>
          have HR : Hid (rs l k = k) := by unfold Hid rs; rw [if_pos (.inr (bg_yes (by omega) hp))]
          go_enter Try.func25, Try.ntmps25
          go_wp2
          go_ret
          exact ⟨by rw [HR.out]; rfl, rfl⟩
        | false =>
          have HR : Hid ((rs l k : Int) = (k : Int) - 1) := by unfold Hid rs; rw [if_neg (fun h => by rcases h with h | h; (rw [show le (at8 l k) = true from h10] at h; simp at h); exact bg_no (by omega) hp h)]; omega
          go_enter Try.func25, Try.ntmps25
          go_wp2
          go_ret
          exact ⟨by rw [HR.out]; rfl, rfl⟩
  · obtain rfl : k = n := by omega
    have c2 := hc.out (k - 1) (by omega)
    have hz : ¬ k = 0 := by omega
    have hz1 : (1 : Int) ≤ (k : Int) := by omega
    have hz2 : (k : Int) - 1 < (k : Int) := by omega
    cases hp : (((at8 l (k - 1)).toNat : Int) == 10) with
    | true =>
      have HR : Hid (rs l k = k) := by unfold Hid rs; rw [if_pos (.inr (bg_yes (by omega) hp))]
      go_enter Try.func25, Try.ntmps25
      go_wp2
      go_ret
      exact ⟨by rw [HR.out]; rfl, rfl⟩
    | false =>
      have HR : Hid ((rs l k : Int) = (k : Int) - 1) := by unfold Hid rs; rw [if_neg (fun h => by rcases h with h | h; omega; exact bg_no (by omega) hp h)]; omega
      go_enter Try.func25, Try.ntmps25
      go_wp2
      go_ret
      exact ⟨by rw [HR.out]; rfl, rfl⟩

theorem rest_any (ao : Option Addr) (n c : Nat) (i : Int) (l : List UInt8) (w : World) (h1 : -9223372036854775808 ≤ i) (h2 : i ≤ 9223372036854775807) (HT : Hid (Tx w ao n c l)) :
    Calls Try.prog 25 #[.slice ao n c, .int .i64 i] w fun e w' => e = .returned (.int .i64 (rs l (cl l i))) ∧ w' = w := by
  have hl := HT.out.len
  have hcl := cl_le l i
  rcases Nat.eq_zero_or_pos n with h0 | h0
  · subst h0
    have e : rs l (cl l i) = 0 := by
      have : cl l i = 0 := by omega
      rw [this]; unfold rs; rw [if_pos (.inr rfl)]
    rw [e]
    exact rest_zero ao c i w h1 h2
  · obtain ⟨g, o, rfl, hc⟩ := HT.out.at h0
    refine rest_at g o n c (cl l i) i l w (by rw [← hl]; exact cl_eq l i) (by omega) hl h0 (by have := HT.out.big; omega) hc
end Go.Proofs.Ytaakgoojcogbcaa
