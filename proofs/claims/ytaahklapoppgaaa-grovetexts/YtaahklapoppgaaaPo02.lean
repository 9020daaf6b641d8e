/- The laws' marksFine and allFine. -/
import Derived.Test.YtaahklapoppgaaaPm32
import Derived.Test.YtaahklapoppgaaaPo00
import Derived.Test.YtaahklapoppgaaaPm37
namespace Go.Proofs.Ytaahklapoppgaaa
open Go.RowKit

set_option maxRecDepth 8000
/-- marks of up to 2^40 -/
def Fin (L : List Int) : Prop := Bd 1099511627776 L
theorem fin_split {L : List Int} (hL : L.length = 27) : Fin L ↔ (∀ j, j < 26 → -1 ≤ L.getD j 0 ∧ L.getD j 0 ≤ 1099511627776) ∧ (-1 ≤ L.getD 26 0 ∧ L.getD 26 0 ≤ 1099511627776) := by
  unfold Fin Bd
  constructor
  · intro h
    have g : ∀ j, j < 27 → -1 ≤ L.getD j 0 ∧ L.getD j 0 ≤ 1099511627776 := fun j hj => by
      rw [List.getD_eq_getElem?_getD, List.getElem?_eq_getElem (by omega)]
      exact h _ (List.getElem_mem _)
    exact ⟨fun j hj => g j (by omega), g 26 (by omega)⟩
  · rintro ⟨h1, h2⟩ x hx
    obtain ⟨j, hj, rfl⟩ := List.getElem_of_mem hx
    have e : L.getD j 0 = L[j] := by rw [List.getD_eq_getElem?_getD, List.getElem?_eq_getElem hj]; rfl
    rw [← e]
    rcases Nat.lt_or_ge j 26 with h | h
    · exact h1 j h
    · obtain rfl : j = 26 := by omega
      exact h2
set_option maxHeartbeats 4000000 in
theorem mfine_any (L : List Int) (hL : L.length = 27) (w : World) : Calls Try.prog 28 #[.agg (mk L)] w fun e w' => e = .returned (.bool (tb (Fin L))) ∧ Below w.heap.size w w' := by
  have HB := Hid.mk' (Blk.new w 41 (mk L))
  have HL := Hid.mk' (bAlloc (Below.refl w.heap.size w) (.cells (mk L) 41))
  have hcell : ∀ j : Nat, j < 27 → (w.alloc (.cells (mk L) 41)).cell? ⟨w.heap.size, j, none⟩ = some (.int .i64 (L.getD j 0)) := fun j hj => by
    have := range_blk HB.out j (.int .i64 (L.getD j 0)) (by rw [ml, List.getElem?_map, List.getElem?_eq_getElem (by omega), List.getD_eq_getElem?_getD, List.getElem?_eq_getElem (by omega)]; rfl)
    simpa using this
  obtain ⟨W1, hW1⟩ : ∃ x, w.alloc (.cells (mk L) 41) = x := ⟨_, rfl⟩
  rw [hW1] at hcell HB HL
  have HC := Hid.mk' hcell
  have c26 := hcell 26 (by omega)
  obtain ⟨b, hb⟩ : ∃ b, w.heap.size = b := ⟨_, rfl⟩
  clear hcell
  rw [hb] at HC c26
  go_enter Try.func28, Try.ntmps28
  go_wp2_with fail
  clear hW1 hb
  go_loopg [3] 26 (fun m x3 wx => ∃ i : Nat, x3 = .int .i64 (i : Int) ∧ i + m = 26 ∧ Hid (∀ j, j < i → -1 ≤ L.getD j 0 ∧ L.getD j 0 ≤ 1099511627776) ∧ wx = W1)
  case atStart => exact ⟨0, rfl, by omega, (fun j hj => by omega), rfl⟩
  case round =>
    obtain ⟨i, rfl, him, KI, rfl⟩ := hrel
    obtain ⟨go, hgo⟩ : ∃ g, g = gk - 1 := ⟨_, rfl⟩
    by_cases hi : i < 26
    · have hi' : (i : Int) < 26 := by omega
      have hi0 : (0 : Int) ≤ (i : Int) := by omega
      have ci := HC.out i (by omega)
      obtain ⟨x, hx⟩ : ∃ x, L.getD i 0 = x := ⟨_, rfl⟩
      rw [hx] at ci
      have HX := Hid.mk' hx
      clear hx c26
      by_cases h1 : x < -1
      · go_wp2
        go_ret
        refine ⟨?_, HL.out⟩
        rw [tb_f (fun hm => by have := ((fin_split hL).1 hm).1 i (by omega); rw [HX.out] at this; omega)]; rfl
      · by_cases h2 : 1099511627776 < x
        · go_wp2
          go_ret
          refine ⟨?_, HL.out⟩
          rw [tb_f (fun hm => by have := ((fin_split hL).1 hm).1 i (by omega); rw [HX.out] at this; omega)]; rfl
        · have hw1 : IntKind.i64.wrap ((i : Int) + 1) = ((i + 1 : Nat) : Int) := by rw [IntKind.wrap_i64]; omega
          go_wp2
          go_roundg go
          case measure => omega
          case rel =>
            refine ⟨i + 1, by go_num, by omega, fun j hj => ?_, rfl⟩
            rcases Nat.lt_or_ge j i with h | h
            · exact KI.out j h
            · obtain rfl : j = i := by omega
              rw [HX.out]; omega
    · have hi' : ¬ (i : Int) < 26 := by omega
      obtain rfl : i = 26 := by omega
      obtain ⟨x, hx⟩ : ∃ x, L.getD 26 0 = x := ⟨_, rfl⟩
      rw [hx] at c26
      have HX := Hid.mk' hx
      clear hx
      by_cases h1 : x < -1
      · have h1' : ¬ -1 ≤ x := by omega
        go_wp2
        go_ret
        refine ⟨?_, HL.out⟩
        rw [tb_f (fun hm => by have := ((fin_split hL).1 hm).2; rw [HX.out] at this; omega)]; rfl
      · have h1' : -1 ≤ x := by omega
        by_cases h2 : 1099511627776 < x
        · have h2' : ¬ x ≤ 1099511627776 := by omega
          go_wp2
          go_ret
          refine ⟨?_, HL.out⟩
          rw [tb_f (fun hm => by have := ((fin_split hL).1 hm).2; rw [HX.out] at this; omega)]; rfl
        · have h2' : x ≤ 1099511627776 := by omega
          go_wp2
          go_ret
          refine ⟨?_, HL.out⟩
          rw [tb_t ((fin_split hL).2 ⟨fun j hj => KI.out j hj, by rw [HX.out]; omega⟩)]; rfl
end Go.Proofs.Ytaahklapoppgaaa
