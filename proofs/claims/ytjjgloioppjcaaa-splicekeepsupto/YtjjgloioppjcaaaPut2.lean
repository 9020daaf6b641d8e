/- put at an empty list; put at every list. -/
import Derived.Test.YtjjgloioppjcaaaPut
namespace Go.Proofs.Ytjjgloioppjcaaa
open Go.RowKit
set_option maxHeartbeats 2000000 in
theorem put_first (B : Nat) (w0 : World) (ao : Option Addr) (cap : Nat) (s' o' l' : Int) (w : World) (hl : ¬ l' = 0) (hown : Hid (w.ownsRow B 39 3 (.slice ao 0 cap) 0 [])) (hb : Hid (Below B w0 w)) (hB : Hid (B ≤ w.heap.size)) :
    Calls Try.prog 37 #[.slice ao 0 cap, .agg #[.int .i64 s', .int .i64 o', .int .i64 l']] w fun e w' => Gave B w0 (putL [] ⟨s', o', l'⟩) e w' := by
  obtain ⟨i0, hi, hz0, hz1, hz2⟩ := info_parts info39
  have hl0 : (l' == 0) = false := by simpa using hl
  go_enter Try.func37, Try.ntmps37
  go_wp2
  go_region
  go_wp2_with (at_builtin; refine wpList_append_own _ rfl (.tmp 34) (.tmp 36) 22 rfl B 39 i0 (.agg #[.int .i64 0, .int .i64 0, .int .i64 0]) 3 24 Try.underlying22 hi hz0 hz1 hz2 rfl (by decide) (.slice ao 0 cap) 0 [] rfl (own_drew ((hown.out.alloc _).alloc _)) ⟨w.heap.size + 1, 0, none⟩ 1 1 [.int .i64 s', .int .i64 o', .int .i64 l'] rfl rfl ?qd2 (one3 s' o' l') ?qd4 ?qd5 ?qd6 ?_)
  case qd2 => intro j u hj; have := put_cells (w.alloc (.cells #[.int .i64 s', .int .i64 o', .int .i64 l'] 39)) s' o' l' j u hj; rw [show (w.alloc (.cells #[.int .i64 s', .int .i64 o', .int .i64 l'] 39)).heap.size = w.heap.size + 1 from by simp] at this; exact this
  case qd4 => unfold maxLen; omega
  case qd5 => omega
  case qd6 => have := hB.out; simp; omega
  intro v' w2 hown2 hgrow _
  have HG : Hid (((w.alloc (.cells #[.int .i64 s', .int .i64 o', .int .i64 l'] 39)).alloc (.cells #[.int .i64 s', .int .i64 o', .int .i64 l'] 39)).drew.grownBy w2 (Value.slice ao 0 cap).ownBlock) := hgrow
  have HO : Hid (w2.ownsRow B 39 3 v' (0 + 1) ([] ++ [.int .i64 s', .int .i64 o', .int .i64 l'])) := hown2
  clear hgrow hown2
  go_wp2
  go_ret
  rw [putL_nil hl]
  have := hB.out
  have hsz := HG.out.size
  simp at hsz
  refine ⟨v', rfl, by simpa [cells, Sp.cs] using HO.out, ?_, by omega⟩
  exact (((hb.out.alloc hB.out _).alloc (by simp; omega) _).drew).grown HG.out (by simp; omega) (fun k hk => by have := (hown.out.lt k hk).1; omega)

/-- put, of whatever right span -/
theorem put_any (B : Nat) (w0 : World) (A : List Sp) (v : Value) (p : Sp) (w : World) (hA : okL A = true) (hp : rgt p = true) (hz : (A.length + 1) * 24 ≤ 140737488355328) (hown : w.ownsRow B 39 3 v A.length (cells A)) (hb : Below B w0 w) (hB : B ≤ w.heap.size) :
    Calls Try.prog 37 #[v, .agg #[.int .i64 p.s, .int .i64 p.o, .int .i64 p.l]] w fun e w' => Gave B w0 (putL A p) e w' := by
  obtain ⟨s', o', l'⟩ := p
  dsimp only
  by_cases hl : l' = 0
  · subst hl
    exact put_zero B w0 A v s' o' w hown hb hB
  · rcases snoc_cases A with rfl | ⟨A, ⟨s, o, l⟩, rfl⟩
    · obtain ⟨ao, cap, rfl⟩ := own_shape hown
      exact put_first B w0 ao cap s' o' l' w hl hown hb hB
    · have hr : rgt ⟨s, o, l⟩ = true := okL_mem hA (by simp)
      simp at hz
      cases hf : fol ⟨s, o, l⟩ ⟨s', o', l'⟩ with
      | true => exact put_join B w0 A v s o l s' o' l' w hl hr hp hf (by omega) hown hb hB
      | false => exact put_far B w0 A v s o l s' o' l' w hl hr hf (by omega) hown hb hB
end Go.Proofs.Ytjjgloioppjcaaa
