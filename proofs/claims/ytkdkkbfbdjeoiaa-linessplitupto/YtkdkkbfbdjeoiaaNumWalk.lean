/- The walk of quoinlaw05.LinesNumbers: it answers true for every text, every list of numbers and every column. -/
import Derived.Test.YtkdkkbfbdjeoiaaBackWalk
namespace Go.Proofs.Ytkdkkbfbdjeoiaa
open Go.RowKit

theorem pr_def (x : Int × Int) : pr x = .returned (.tuple #[.int .i64 x.1, .int .i64 x.2]) := rfl

/-- number i of a list, 0 beyond the end -/
def atI (Z : List Int) (i : Nat) : Int := Z.getD i 0
/-- The value '.slice ao n c' reads as the numbers Z. -/
structure Nx (w : World) (ao : Option Addr) (n c : Nat) (Z : List Int) : Prop where
  len : Z.length = n
  cap : n ≤ c
  nil : ao = none → c = 0
  big : n ≤ 140737488355328
  fit : ∀ i, -9223372036854775808 ≤ atI Z i ∧ atI Z i ≤ 9223372036854775807
  cells : ∀ a, ao = some a → ∀ j, j < n → w.cell? (a.add j) = some (.int .i64 (atI Z j))
theorem Nx.keep {w w' : World} {ao : Option Addr} {n c : Nat} {Z : List Int} (h : Nx w ao n c Z) (hb : Below w.heap.size w w') : Nx w' ao n c Z :=
  ⟨h.len, h.cap, h.nil, h.big, h.fit, fun a ha j hj => by have h1 := h.cells a ha j hj; rw [hb.cell (lt_of_cell h1)]; exact h1⟩
theorem Nx.at {w : World} {ao : Option Addr} {n c : Nat} {Z : List Int} (h : Nx w ao n c Z) (hn : 0 < n) :
    ∃ g o, ao = some ⟨g, o, none⟩ ∧ ∀ j, j < n → w.cell? ⟨g, o + j, none⟩ = some (.int .i64 (atI Z j)) := by
  cases ao with
  | none => have := h.nil rfl; have := h.cap; omega
  | some a =>
    have h0 := h.cells a rfl 0 hn
    obtain ⟨g, o, s⟩ := a
    have hs : s = none := by simpa [Addr.add] using World.cell?_spot h0
    subst hs
    exact ⟨g, o, rfl, fun j hj => by have := h.cells _ rfl j hj; rwa [add_none] at this⟩

set_option maxRecDepth 100000 in
set_option maxHeartbeats 4000000 in
theorem linesNumbers_walk (ao : Option Addr) (n c : Nat) (l : List UInt8) (bo : Option Addr) (m d : Nat) (Z : List Int) (C : Int) (w : World) (hC2 : C ≤ 9223372036854775807) (HT : Hid (Tx w ao n c l)) (HN : Hid (Nx w bo m d Z)) :
    Calls Try.prog 3 #[.slice ao n c, .slice bo m d, .int .i64 C] w fun e w' => e = .returned (.bool true) ∧ Below w.heap.size w w' := by
  have hmbig : (m : Int) ≤ 140737488355328 := by have := HN.out.big; omega
  go_enter Try.func3, Try.ntmps3
  go_wp2_with fail
  refine (alive_any _).mono ?_
  rintro e w1 ⟨rfl, hb1⟩
  have T1 := Hid.mk' (HT.out.keep hb1)
  go_wp2_with fail
  refine (count_any _ _ _ l _ T1).mono ?_
  rintro e w2 ⟨rfl, hb2⟩
  have T2 := Hid.mk' (T1.out.keep hb2)
  have B2 := Hid.mk' (bT hb1 hb2)
  clear hb1 hb2 T1
  go_wp2_with fail
  refine (refCount_any _ _ _ l _ T2).mono ?_
  rintro e w9 ⟨rfl, hw⟩
  have hq := hw.symm
  subst hq
  clear hw T2
  go_wp2_with fail
  go_loopw [7] (fun u wr => ∃ i : Nat, u = .int .i64 i ∧ i ≤ m ∧ Below w.heap.size w wr) (fun u _ => m - (intOf u).toNat)
  case atStart => exact ⟨0, rfl, Nat.zero_le _, B2.out⟩
  case round =>
    obtain ⟨i, rfl, hi, hb⟩ := hrel
    have HB := Hid.mk' hb
    have T1 := Hid.mk' (HT.out.keep hb)
    have N1 := Hid.mk' (HN.out.keep hb)
    clear hb B2
    have hi0 : (0 : Int) ≤ (i : Int) := by omega
    by_cases hlt : i < m ∧ i < 200
    · obtain ⟨g, o, rfl, hc⟩ := N1.out.at (by omega)
      have hc0 := hc i hlt.1
      have him : (i : Int) < (m : Int) := by omega
      have hi2 : (i : Int) < 200 := by omega
      have hz1 := (HN.out.fit i).1
      have hz2 := (HN.out.fit i).2
      generalize atI Z i = z at *
      clear hc
      go_wp2_with fail
      refine (start_any ao n c z l _ hz2 T1).mono ?_
      rintro e w9 ⟨rfl, hw⟩
      have hq := hw.symm
      subst hq
      clear hw
      rw [pr_def]
      go_wp2_with fail
      refine (refStart_any ao n c z l _ hz2 T1).mono ?_
      rintro e w9 ⟨rfl, hw⟩
      have hq := hw.symm
      subst hq
      clear hw
      rw [pr_def]
      go_wp2_with fail
      refine (end_any ao n c z l _ hz2 T1).mono ?_
      rintro e w9 ⟨rfl, hw⟩
      have hq := hw.symm
      subst hq
      clear hw
      rw [pr_def]
      go_wp2_with fail
      refine (refEnd_any ao n c z l _ hz2 T1).mono ?_
      rintro e w9 ⟨rfl, hw⟩
      have hq := hw.symm
      subst hq
      clear hw
      rw [pr_def]
      go_wp2_with fail
      refine (of_any ao n c z l _ T1).mono ?_
      rintro e w2 ⟨rfl, hb2⟩
      rw [pr_def]
      have T2 := Hid.mk' (T1.out.keep hb2)
      have B2 := Hid.mk' (bT HB.out hb2)
      clear hb2 T1 HB hc0
      go_wp2_with fail
      refine (refOf_any ao n c z l _ T2).mono ?_
      rintro e w9 ⟨rfl, hw⟩
      have hq := hw.symm
      subst hq
      clear hw
      rw [pr_def]
      go_wp2_with fail
      refine (column_any ao n c z l _ T2).mono ?_
      rintro e w9 ⟨rfl, hw⟩
      have hq := hw.symm
      subst hq
      clear hw
      rw [pr_def]
      go_wp2_with fail
      refine (refColumn_any ao n c z l _ T2).mono ?_
      rintro e w9 ⟨rfl, hw⟩
      have hq := hw.symm
      subst hq
      clear hw
      rw [pr_def]
      go_wp2_with fail
      refine (first_any ao n c z l _ hz2 T2).mono ?_
      rintro e w9 ⟨rfl, hw⟩
      have hq := hw.symm
      subst hq
      clear hw
      rw [pr_def]
      go_wp2_with fail
      refine (refFirst_any ao n c z l _ hz2 T2).mono ?_
      rintro e w9 ⟨rfl, hw⟩
      have hq := hw.symm
      subst hq
      clear hw
      rw [pr_def]
      go_wp2_with fail
      refine (at_any ao n c z C l _ hz2 hC2 T2).mono ?_
      rintro e w9 ⟨rfl, hw⟩
      have hq := hw.symm
      subst hq
      clear hw
      rw [pr_def]
      go_wp2_with fail
      refine (refAt_any ao n c z C l _ hz2 hC2 T2).mono ?_
      rintro e w9 ⟨rfl, hw⟩
      have hq := hw.symm
      subst hq
      clear hw
      rw [pr_def]
      go_wp2_with fail
      refine (rest_any ao n c z l _ hz1 hz2 T2).mono ?_
      rintro e w9 ⟨rfl, hw⟩
      have hq := hw.symm
      subst hq
      clear hw
      go_wp2_with fail
      refine (refRest_any ao n c z l _ hz1 hz2 T2).mono ?_
      rintro e w9 ⟨rfl, hw⟩
      have hq := hw.symm
      subst hq
      clear hw
      go_wp2
      go_roundw
      case rel => exact ⟨i + 1, by go_num, by omega, B2.out⟩
      case measure => first | (simp [intOf]; done) | (simp [intOf]; omega)
    · by_cases him : i < m
      · have him' : (i : Int) < (m : Int) := by omega
        have hi2 : ¬ (i : Int) < 200 := by omega
        go_wp2
        go_ret
        exact ⟨rfl, HB.out⟩
      · have him' : ¬ (i : Int) < (m : Int) := by omega
        go_wp2
        go_ret
        exact ⟨rfl, HB.out⟩
end Go.Proofs.Ytkdkkbfbdjeoiaa
