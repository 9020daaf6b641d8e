/- The reference's small questions about marks: noMark, marksRight. -/
import Derived.Test.YtaahklapoppgaaaQm14
import Derived.Test.YtaahklapoppgaaaQm25
namespace Go.Proofs.Ytaahklapoppgaaa
open Go.RowKit

set_option maxRecDepth 8000
set_option maxHeartbeats 1000000 in
theorem rnoMark_walk (Z : List Int) (hZ : Z.length = 27) (hb : ∀ w, (Instr.build 41 #[]).run Try.prog w = .ok (.agg (mk Z)) w) (L : List Int) (hL : L.length = 27) (w : World) : Calls Try.prog 41 #[.agg (mk L)] w fun e w' => e = .returned (.bool (decide (L = Z))) ∧ Below w.heap.size w w' := by
  have hq := mkH (fun w => eql41 w L Z hL hZ)
  have HBD := mkH hb
  clear hb
  have HB := mkH (Blk.new w 41 (mk L))
  have HL := mkH (bAlloc (Below.refl w.heap.size w) (.cells (mk L) 41))
  go_enter Try.func41, Try.ntmps41
  go_wp2_with (first | refine wl_ld41 (B := w.heap.size) (o := 0) (.tmp 1) rfl rfl rfl hL (range_blk HB.out) ?_ | refine wl_bld rfl 41 _ rfl #[] (by kernel_rfl) (HBD.out _) ?_ | refine wl_bin rfl .eql 41 41 (.tmp 3) (.tmp 4) rfl rfl rfl Try.eqGuardType41 (hq.out _) ?_ | fail)
  go_ret
  exact ⟨rfl, HL.out⟩
theorem rnoMark_any (L : List Int) (hL : L.length = 27) (w : World) : Calls Try.prog 41 #[.agg (mk L)] w fun e w' => e = .returned (.bool (decide (L = zm))) ∧ Below w.heap.size w w' := rnoMark_walk zm rfl b24 L hL w
theorem mok_split {L : List Int} (hL : L.length = 27) : MOk L ↔ (∀ j, j < 26 → -1 ≤ L.getD j 0) ∧ -1 ≤ L.getD 26 0 := by
  unfold MOk
  constructor
  · intro h
    have g : ∀ j, j < 27 → -1 ≤ L.getD j 0 := fun j hj => by
      rw [List.getD_eq_getElem?_getD, List.getElem?_eq_getElem (by omega)]
      exact h _ (List.getElem_mem _)
    exact ⟨fun j hj => g j (by omega), g 26 (by omega)⟩
  · rintro ⟨h1, h2⟩ x hx
    obtain ⟨j, hj, rfl⟩ := List.getElem_of_mem hx
    have e : L.getD j 0 = L[j] := by rw [List.getD_eq_getElem?_getD, List.getElem?_eq_getElem hj]; rfl
    rw [← e]
    rcases Nat.lt_or_ge j 26 with h | h
    · exact h1 j h
    · obtain rfl : j = 26 := by omega
      exact h2
set_option maxHeartbeats 2000000 in
theorem rmarks_any (L : List Int) (hL : L.length = 27) (w : World) : Calls Try.prog 55 #[.agg (mk L)] w fun e w' => e = .returned (.bool (tb (MOk L))) ∧ Below w.heap.size w w' := by
  have HB := mkH (Blk.new w 41 (mk L))
  have HL := mkH (bAlloc (Below.refl w.heap.size w) (.cells (mk L) 41))
  have hcell : ∀ j : Nat, j < 27 → (w.alloc (.cells (mk L) 41)).cell? ⟨w.heap.size, j, none⟩ = some (.int .i64 (L.getD j 0)) := fun j hj => by
    have := range_blk HB.out j (.int .i64 (L.getD j 0)) (by rw [ml, List.getElem?_map, List.getElem?_eq_getElem (by omega), List.getD_eq_getElem?_getD, List.getElem?_eq_getElem (by omega)]; rfl)
    simpa using this
  obtain ⟨W1, hW1⟩ : ∃ x, w.alloc (.cells (mk L) 41) = x := ⟨_, rfl⟩
  rw [hW1] at hcell HB HL
  have HC := mkH hcell
  have c26 := hcell 26 (by omega)
  obtain ⟨b, hb⟩ : ∃ b, w.heap.size = b := ⟨_, rfl⟩
  clear hcell
  have HBb := mkH hb
  rw [hb] at HC c26
  go_enter Try.func55, Try.ntmps55
  go_wp2_with fail
  clear hW1 hb
  go_loopg [3] 26 (fun m x3 wx => ∃ i : Nat, x3 = .int .i64 (i : Int) ∧ i + m = 26 ∧ Hid (∀ j, j < i → -1 ≤ L.getD j 0) ∧ wx = W1)
  case atStart => exact ⟨0, rfl, by omega, (fun j hj => by omega), rfl⟩
  case round =>
    obtain ⟨i, rfl, him, KI, rfl⟩ := hrel
    obtain ⟨go, hgo⟩ : ∃ g, g = gk - 1 := ⟨_, rfl⟩
    by_cases hi : i < 26
    · have hi' : (i : Int) < 26 := by omega
      have hi0 : (0 : Int) ≤ (i : Int) := by omega
      have ci := HC.out i (by omega)
      obtain ⟨x, hx⟩ : ∃ x, L.getD i 0 = x := ⟨_, rfl⟩
      rw [hx] at ci
      have HX := mkH hx
      clear hx c26
      by_cases h1 : x < -1
      · go_wp2
        go_ret
        refine ⟨?_, HL.out⟩
        rw [tb_f (fun hm => by have := ((mok_split hL).1 hm).1 i (by omega); rw [HX.out] at this; omega)]; rfl
      · have hw1 : IntKind.i64.wrap ((i : Int) + 1) = ((i + 1 : Nat) : Int) := by rw [IntKind.wrap_i64]; omega
        go_wp2
        go_roundg go
        case measure => omega
        case rel =>
          refine ⟨i + 1, by go_num, by omega, fun j hj => ?_, rfl⟩
          rcases Nat.lt_or_ge j i with h | h
          · exact KI.out j h
          · obtain rfl : j = i := by omega
            rw [HX.out]; omega
    · have hi' : ¬ (i : Int) < 26 := by omega
      obtain rfl : i = 26 := by omega
      obtain ⟨x, hx⟩ : ∃ x, L.getD 26 0 = x := ⟨_, rfl⟩
      rw [hx] at c26
      have HX := mkH hx
      clear hx
      by_cases h1 : -1 ≤ x
      · go_wp2
        go_ret
        refine ⟨?_, HL.out⟩
        rw [tb_t ((mok_split hL).2 ⟨KI.out, by rw [HX.out]; exact h1⟩)]; rfl
      · go_wp2
        go_ret
        refine ⟨?_, HL.out⟩
        rw [tb_f (fun hm => by have := ((mok_split hL).1 hm).2; rw [HX.out] at this; omega)]; rfl
end Go.Proofs.Ytaahklapoppgaaa

