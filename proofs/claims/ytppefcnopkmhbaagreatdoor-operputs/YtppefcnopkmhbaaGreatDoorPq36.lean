/- Fpd, Rjn, Rfn -/
import Derived.Test.YtppefcnopkmhbaaGreatDoorPq35
import Derived.Test.YtppefcnopkmhbaaGreatDoorPq30
import Derived.Test.YtppefcnopkmhbaaGreatDoorPq32
import Derived.Test.YtppefcnopkmhbaaGreatDoorPq11
import Derived.Test.YtppefcnopkmhbaaGreatDoorPq12
import Derived.Test.YtppefcnopkmhbaaGreatDoorPq02
namespace Go.Proofs.YtppefcnopkmhbaaGreatDoor
open Go.RowKit

set_option maxRecDepth 8000
theorem plP_le (l : List UInt8) (i : Nat) : plP l i ≤ l.length := by
  unfold plP
  split
  · rename_i h; exact sp_le h
  · exact Nat.le_refl _
theorem put_fit {l : List UInt8} (at' q : Int) (set lin : Bool) (X : List UInt8) (ah : Bool) : FitB l (ptX l at' q set lin X ah) := by
  unfold ptX
  split
  · exact FitB.no (by decide)
  rename_i h
  split
  · exact FitB.no (by decide)
  obtain ⟨k, hk⟩ : ∃ k : Nat, at' = (k : Int) := ⟨at'.toNat, by by_cases h2 : (0 ≤ at' ∧ at' ≤ (l.length : Int)); omega; exact absurd (fun h3 => h2 h3.1) h⟩
  have hkl : k ≤ l.length := by by_cases h2 : (0 ≤ at' ∧ at' ≤ (l.length : Int)); omega; exact absurd (fun h3 => h2 h3.1) h
  rw [hk, show ((k : Int)).toNat = k from rfl]
  unfold ptM
  split
  · exact FitB.no (by decide)
  rename_i hlen
  have hY : (rp (ptT lin X) q.toNat).length ≤ 65536 := by
    rw [rp_len]
    have h1 : (ptT lin X).length ≤ 65536 / q.toNat := Nat.le_of_not_lt hlen
    exact Nat.le_trans (Nat.mul_le_mul_right _ h1) (Nat.div_mul_le_self _ _)
  generalize rp (ptT lin X) q.toNat = Y at *
  split
  · unfold plX
    have hp := plP_le l (plI l k ah)
    have hy : (plY l (plI l k ah) Y).length ≤ 65537 := by
      unfold plY
      split
      · omega
      · simp; omega
    exact FitB.sw rfl (Nat.le_refl _) hp (by omega) (fbh_sw (Nat.le_refl _) hp).1 (fbh_sw (Nat.le_refl _) hp).2
  · unfold pbX
    split
    · exact FitB.none rfl (by show (0 : Int) ≤ (k : Int); omega) (by show (k : Int) ≤ _; omega)
    · rename_i h0
      have hp : (if ah = true then k else bsd l k) ≤ l.length := by
        split
        · exact hkl
        · exact bsd_le hkl
      generalize (if ah = true then k else bsd l k) = p at *
      dsimp only
      refine FitB.sw rfl (Nat.le_refl _) hp (by omega) ?_ ?_
      · dsimp only; split <;> omega
      · dsimp only; split <;> omega
end Go.Proofs.YtppefcnopkmhbaaGreatDoor

namespace Go.Proofs.YtppefcnopkmhbaaGreatDoor
open Go.RowKit

set_option maxRecDepth 8000
end Go.Proofs.YtppefcnopkmhbaaGreatDoor

namespace Go.Proofs.YtppefcnopkmhbaaGreatDoor
open Go.RowKit

set_option maxRecDepth 8000
theorem hasL_none {l : List UInt8} (h : ∀ j, j < l.length → le (at8 l j) = false) : hasL l = false := by
  refine decide_eq_false fun h2 => ?_
  have h3 := List.findIdx_getElem (w := h2)
  rw [← at8_eq h2, h _ h2] at h3
  cases h3
theorem hasL_some {l : List UInt8} {j : Nat} (hj : j < l.length) (h : le (at8 l j) = true) : hasL l = true := by
  refine decide_eq_true (List.findIdx_lt_length.2 ⟨l[j], List.getElem_mem hj, ?_⟩)
  rw [← at8_eq hj]; exact h
set_option maxHeartbeats 2000000 in
theorem rtaken_any (ao : Option Addr) (n c : Nat) (l : List UInt8) (L : Bool) (w : World) (HT : Hid (Tx w ao n c l)) (hn : n ≤ 140737488355328) :
    Calls Tryz.prog 26 #[.slice ao n c, .bool L] w fun e w' => e = .returned (.int .i64 (hwE L l)) ∧ w' = w := by
  have HL : Hid (l.length = n) := HT.out.len
  cases L with
  | true =>
    have HH : Hid (hwE true l = 2) := rfl
    go_enter Tryz.func26, Tryz.ntmps26
    go_wp2
    go_ret
    exact ⟨by rw [HH.out]; rfl, rfl⟩
  | false =>
    go_enter Tryz.func26, Tryz.ntmps26
    go_wp2_with fail
    go_loopw [5] (fun v wr => ∃ i : Nat, v = .int .i64 i ∧ i ≤ n ∧ (∀ j, j < i → le (at8 l j) = false) ∧ wr = w) (fun v _ => n - (intOf v).toNat)
    case atStart => exact ⟨0, rfl, Nat.zero_le _, fun j hj => by omega, rfl⟩
    case round =>
      obtain ⟨i, rfl, hi, hno, rfl⟩ := hrel
      have HNO := Hid.mk' hno
      clear hno
      by_cases hlt : i < n
      · obtain ⟨g, o, rfl, hc⟩ := HT.out.at (by omega)
        have hc0 := hc i hlt
        have hi0 : (0 : Int) ≤ (i : Int) := by omega
        have hin : (i : Int) < (n : Int) := by omega
        clear hc
        cases h10 : (((at8 l i).toNat : Int) == 10) with
        | false =>
          have HN2 : Hid (∀ j, j < i + 1 → le (at8 l j) = false) := fun j hj => by
            by_cases e : j = i
            · subst e; exact le_of h10
            · exact HNO.out j (by omega)
          go_wp2
          go_roundw
          case rel => exact ⟨i + 1, by go_num, by omega, HN2.out, by trivial⟩
          case measure => first | (simp [intOf]; done) | (simp [intOf]; omega)
        | true =>
          have HH : Hid (hwE false l = 2) := by unfold Hid hwE; rw [hasL_some (by rw [HL.out]; exact hlt) (le_of h10)]; rfl
          go_wp2
          go_ret
          exact ⟨by rw [HH.out]; rfl, rfl⟩
      · obtain rfl : i = n := by omega
        have HH : Hid (hwE false l = 3) := by unfold Hid hwE; rw [hasL_none (fun j hj => HNO.out j (by rw [← HL.out]; exact hj))]; rfl
        go_wp2
        go_ret
        exact ⟨by rw [HH.out]; rfl, rfl⟩
theorem rapply_q (ao : Option Addr) (n c : Nat) (T : List UInt8) (eo : Option Addr) (en ec : Nat) (E : List Er) (w : World) (hT : Hid (Tx w ao n c T)) (hb : n ≤ 140737488355328) (HE : Hid (Edz w eo E)) (hn : E.length = en) (heb : en ≤ 140737488355328) {D : List Ed} (hD : E.map Er.d = D) (HM : Mod T D) : Calls Tryz.prog 52 #[.slice ao n c, .slice eo en ec] w fun e w' => TxQ (apU T D) (apE T D) w e w' := by
  subst hD
  refine (rapply_any ao n c T eo en ec E w hT hb HE hn heb HM).mono ?_
  rintro e w' (⟨U, v, h1, rfl, h2, h3⟩ | ⟨h1, rfl, h3⟩)
  · exact ⟨v, by unfold apE; rw [h1]; rfl, by unfold apU; rw [h1]; exact h2, h3⟩
  · exact ⟨.slice none 0 0, by unfold apE; rw [h1]; rfl, by unfold apU; rw [h1]; exact ⟨rfl, .inl ⟨rfl, rfl⟩⟩, h3⟩
set_option maxHeartbeats 2000000 in
theorem rfst_any (ao : Option Addr) (n c : Nat) (l : List UInt8) (eo : Option Addr) (en ec i : Nat) (E : List Er) (w : World) (HT : Hid (Tx w ao n c l)) (hb : n ≤ 140737488355328) (HE : Hid (Edz w eo E)) (hn : E.length = en) (heb : en ≤ 140737488355328) {D : List Ed} (hD : E.map Er.d = D) (HM : Hid (Mod l D)) (hi : (i : Int) ≤ 9223372036854775807) :
    Calls Tryz.prog 30 #[.slice ao n c, .slice eo en ec, .int .i64 (i : Int)] w fun e w' => e = .returned (.int .i64 (fbh l D i)) ∧ Below w.heap.size w w' := by
  have C1 := Hid.mk' (rapply_q ao n c l eo en ec E w HT hb HE hn heb hD HM.out)
  have hul := apU_le HM.out
  have HUL := Hid.mk' hul
  have HFB : Hid (fbh l D i = (aFirst (apU l D) (min (i : Int) (nl (apU l D) : Int))).1) := rfl
  generalize fbh l D i = r at *
  generalize apU l D = U at *
  generalize apE l D = z at *
  have hnl := nl_le U
  obtain ⟨m, hm⟩ : ∃ m : Nat, min (i : Int) (nl U : Int) = (m : Int) := ⟨min i (nl U), by omega⟩
  have HM2 := Hid.mk' hm
  rw [hm] at HFB
  have hmn : min (i : Int) ((nl U : Nat) : Int) = (m : Int) := hm
  have hw1 : wrap64 (nl U : Int) = (nl U : Int) := by unfold wrap64; omega
  have hmle : (m : Int) ≤ 9223372036854775807 := by omega
  have C3 : Hid (∀ W ao' c', Tx W ao' U.length c' U → Calls Tryz.prog 53 #[.slice ao' U.length c', .int .i64 (m : Int)] W fun e w' => ∃ q : Int, e = .returned (.tuple #[.int .i64 r, .int .i64 q]) ∧ w' = W) := fun W ao' c' h => by
    refine (refFirst_any ao' U.length c' m U W hmle h).mono ?_
    rintro e w' ⟨rfl, rfl⟩
    exact ⟨(aFirst U (m : Int)).2, by unfold pr; rw [HFB.out], rfl⟩
  have C2 : Hid (∀ W ao' c', Tx W ao' U.length c' U → Calls Tryz.prog 51 #[.slice ao' U.length c'] W fun e w' => e = .returned (.int .i64 ((nl U : Int) + 1)) ∧ w' = W) := fun W ao' c' h => refCount_any ao' U.length c' U W h
  clear HT HE HM hD hm hn HFB hul
  go_enter Tryz.func30, Tryz.ntmps30
  go_wp2_with fail
  refine C1.out.mono ?_
  rintro e w1 ⟨v, rfl, hO, hB1⟩
  obtain ⟨uo, uc, rfl, hTU⟩ := own_tx hO (by have := HUL.out; omega)
  have KT := Hid.mk' hTU
  have B1 := Hid.mk' hB1
  clear hO hTU hB1 C1
  dsimp only
  go_wp2_with fail
  refine (C2.out w1 uo uc KT.out).mono ?_
  rintro e w2 ⟨rfl, hw3⟩
  have hq := hw3.symm
  subst hq
  clear hw3 C2
  dsimp only
  go_wp2_with fail
  refine (C3.out w1 uo uc KT.out).mono ?_
  rintro e w3 ⟨q, rfl, hw3⟩
  have hq := hw3.symm
  subst hq
  clear hw3 C3
  dsimp only
  go_wp2
  go_ret
  exact ⟨rfl, B1.out⟩
end Go.Proofs.YtppefcnopkmhbaaGreatDoor
