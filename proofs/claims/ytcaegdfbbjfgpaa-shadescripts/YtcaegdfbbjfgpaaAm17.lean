/- The contract of the law's own 'plain'. -/
import Derived.Test.YtcaegdfbbjfgpaaAm04
namespace Go.Proofs.Ytcaegdfbbjfgpaa
open Go.RowKit

def plainL (ls : List Int) : List Pc := ls.map fun l => ⟨0, 0, l, 0⟩
theorem plainL_take {ls : List Int} {j : Nat} {x : Int} (h : ls[j]? = some x) : plainL (ls.take (j + 1)) = plainL (ls.take j) ++ [⟨0, 0, x, 0⟩] := by
  obtain ⟨h1, h2⟩ := List.getElem?_eq_some_iff.1 h
  unfold plainL
  rw [List.take_succ_eq_append_getElem h1, List.map_append, h2]; rfl

set_option maxHeartbeats 4000000 in
theorem plain_any (b : Nat) (ls : List Int) (w : World) (hz : ls.length ≤ 1000) (h : Hid (∀ j x, ls[j]? = some x → w.cell? ⟨b, j, none⟩ = some (.int .i64 x))) :
    Calls Try.prog 38 #[.slice (some ⟨b, 0, none⟩) ls.length ls.length] w fun e w' => ∃ ao c, e = .returned (.slice ao ls.length c) ∧ w'.ownsRow w.heap.size 32 4 (.slice ao ls.length c) ls.length (cells (plainL ls)) ∧ Below w.heap.size w w' := by
  obtain ⟨i0, hi, hz0, hz1, hz2⟩ := info_parts info32
  go_enter Try.func38, Try.ntmps38
  go_wp2
  go_loopw [3, 4] (fun g i wr => ∃ j : Nat, j ≤ ls.length ∧ i = .int .i64 j ∧ wr.ownsRow w.heap.size 32 4 g j (cells (plainL (ls.take j))) ∧ Below w.heap.size w wr) (fun _ i _ => ls.length - (intOf i).toNat)
  case atStart => exact ⟨0, Nat.zero_le _, rfl, World.ownsRow_nil _ _ _ _, Below.refl _ _⟩
  case round =>
    obtain ⟨j, hj, rfl, hown, hb⟩ := hrel
    have HW : Hid (wr.ownsRow w.heap.size 32 4 u3 j (cells (plainL (ls.take j)))) := hown
    have HB : Hid (Below w.heap.size w wr) := hb
    clear hown hb
    by_cases hlt : j < ls.length
    · rcases hp : ls[j]? with _ | x
      · have := List.getElem?_eq_none_iff.1 hp; omega
      have r0 : wr.cell? ⟨b, j, none⟩ = some (.int .i64 x) := by
        have := h.out j x hp
        rw [HB.out.cell (cell_lt this)]; exact this
      have HG : Hid (plainL (ls.take (j + 1)) = plainL (ls.take j) ++ [⟨0, 0, x, 0⟩]) := plainL_take hp
      have hj0 : (0 : Int) ≤ (j : Int) := by omega
      have hjl : (j : Int) < (ls.length : Int) := by omega
      clear hp
      go_wp2_with (at_builtin; refine wpList_append_own _ rfl (.tmp 11) (.tmp 18) 33 rfl w.heap.size 32 i0 (.agg #[.int .i64 0, .int .i64 0, .int .i64 0, .int .i64 0]) 4 32 Try.underlying33 hi hz0 hz1 hz2 rfl (by decide) u3 j (cells (plainL (ls.take j))) rfl (HW.out.alloc _) ⟨wr.heap.size, 0, none⟩ 1 1 [.int .i64 0, .int .i64 0, .int .i64 x, .int .i64 0] rfl rfl ?qd2 ?qd3 ?qd4 ?qd5 ?qd6 ?_)
      case qd2 => exact fun k' u hk => lit_cells wr #[.int .i64 0, .int .i64 0, .int .i64 x, .int .i64 0] 32 k' u hk
      case qd3 => intro u hu; simp at hu; rcases hu with rfl | rfl | rfl | rfl <;> rfl
      case qd4 => unfold maxLen; omega
      case qd5 => omega
      case qd6 => have := HB.out.size; simp; omega
      intro v' w2 hown hgrow _
      have HW2 : Hid (w2.ownsRow w.heap.size 32 4 v' (j + 1) (cells (plainL (ls.take (j + 1))))) := by
        unfold Hid
        rw [HG.out, cells_append]
        exact hown
      have HB2 : Hid (Below w.heap.size w w2) := (bAlloc HB.out _).grown hgrow (by have := HB.out.size; simp; omega) (fun k hk => (HW.out.lt k hk).1)
      clear hown hgrow
      go_wp2
      go_roundw
      case rel => exact ⟨j + 1, by omega, by go_num, HW2.out, HB2.out⟩
      case measure => simp [intOf]; omega
    · obtain rfl : j = ls.length := by omega
      rw [List.take_length] at HW
      obtain ⟨ae, ce, rfl⟩ := own_shape HW.out
      go_wp2
      go_ret
      exact ⟨ae, ce, rfl, HW.out, HB.out⟩
end Go.Proofs.Ytcaegdfbbjfgpaa

