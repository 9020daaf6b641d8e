/- The contract of the reference's lay. -/
import Derived.Test.YtjjgloioppjcaaaPut2
namespace Go.Proofs.Ytjjgloioppjcaaa
open Go.RowKit

set_option maxHeartbeats 1000000 in
theorem lay_zero (B : Nat) (w0 : World) (A : List Sp) (v : Value) (s o : Int) (w : World) (hown : Hid (w.ownsRow B 39 3 v A.length (cells A))) (hb : Hid (Below B w0 w)) (hB : Hid (B ≤ w.heap.size)) :
    Calls Try.prog 27 #[v, .agg #[.int .i64 s, .int .i64 o, .int .i64 0]] w fun e w' => Gave B w0 (putL A ⟨s, o, 0⟩) e w' := by
  go_enter Try.func27, Try.ntmps27
  go_wp2
  go_ret
  exact ⟨v, rfl, by rw [putL_zero rfl]; exact hown.out.alloc _, hb.out.alloc hB.out _, by have := hB.out; simp; omega⟩

set_option maxHeartbeats 2000000 in
theorem lay_join (B : Nat) (w0 : World) (A : List Sp) (v : Value) (s o l l' : Int) (w : World) (hl : ¬ l' = 0) (hr1 : rgt ⟨s, o, l⟩ = true) (hr2 : rgt ⟨s, o + l, l'⟩ = true) (hz : A.length ≤ 140737488355328) (hown : Hid (w.ownsRow B 39 3 v (A ++ [(⟨s, o, l⟩ : Sp)]).length (cells (A ++ [⟨s, o, l⟩])))) (hb : Hid (Below B w0 w)) (hB : Hid (B ≤ w.heap.size)) :
    Calls Try.prog 27 #[v, .agg #[.int .i64 s, .int .i64 (o + l), .int .i64 l']] w fun e w' => Gave B w0 (putL (A ++ [⟨s, o, l⟩]) ⟨s, o + l, l'⟩) e w' := by
  obtain ⟨g, cap, rfl, hBg, hg, c0, c1, c2, f2⟩ := own_last hown.out
  have hl0 : (l' == 0) = false := by simpa using hl
  have r1 := (rgt_iff _).1 hr1
  have r2 := (rgt_iff _).1 hr2
  dsimp only at r1 r2
  have i1 : (0 : Int) ≤ (A.length : Int) := by omega
  have i2 : (A.length : Int) < (A.length : Int) + 1 := by omega
  have hf : fol ⟨s, o, l⟩ ⟨s, o + l, l'⟩ = true := by simp [fol]
  go_enter Try.func27, Try.ntmps27
  go_wp2
  go_region
  go_wp2
  go_region
  go_wp2
  go_ret
  rw [putL_join hl hf]
  have ho := hown.out
  rw [show (A ++ [(⟨s, o, l⟩ : Sp)]).length = A.length + 1 from by simp] at ho
  obtain ⟨q1, q2⟩ := ho.stored (A.length * 3 + 2) (.int .i64 (l + l'))
  rw [cells_last] at q1
  refine ⟨_, rfl, ?_, ?_, ?_⟩
  · exact own_drew (own_drew ((show _ from by simpa using q1 : (w.setCell ⟨g, A.length * 3 + 2, none⟩ (.int .i64 (l + l'))).ownsRow B 39 3 (.slice (some ⟨g, 0, none⟩) (A.length + 1) cap) (A ++ [(⟨s, o, l + l'⟩ : Sp)]).length (cells (A ++ [⟨s, o, l + l'⟩]))).alloc _))
  · have := hB.out
    exact (((hb.out.setCell (p := ⟨g, A.length * 3 + 2, none⟩) hBg _).alloc (by simp; omega) _).drew).drew
  · have := hB.out
    simp; omega

set_option maxHeartbeats 2000000 in
theorem lay_far1 (B : Nat) (w0 : World) (A : List Sp) (v : Value) (s o l s' o' l' : Int) (w : World) (hl : ¬ l' = 0) (hr1 : rgt ⟨s, o, l⟩ = true) (hne : Hid (¬ s = s')) (hz : (A.length + 2) * 24 ≤ 140737488355328) (hown : Hid (w.ownsRow B 39 3 v (A ++ [(⟨s, o, l⟩ : Sp)]).length (cells (A ++ [⟨s, o, l⟩])))) (hb : Hid (Below B w0 w)) (hB : Hid (B ≤ w.heap.size)) :
    Calls Try.prog 27 #[v, .agg #[.int .i64 s', .int .i64 o', .int .i64 l']] w fun e w' => Gave B w0 (putL (A ++ [⟨s, o, l⟩]) ⟨s', o', l'⟩) e w' := by
  obtain ⟨g, cap, rfl, hBg, hg, c0, c1, c2, f2⟩ := own_last hown.out
  obtain ⟨i0, hi, hz0, hz1, hz2⟩ := info_parts info39
  have hl0 : (l' == 0) = false := by simpa using hl
  have hq : (s == s') = false := by have := hne.out; simpa using this
  have r1 := (rgt_iff _).1 hr1
  dsimp only at r1
  have i1 : (0 : Int) ≤ (A.length : Int) := by omega
  have i2 : (A.length : Int) < (A.length : Int) + 1 := by omega
  have ho := hown.out
  rw [show (A ++ [(⟨s, o, l⟩ : Sp)]).length = A.length + 1 from by simp] at ho
  have HW : Hid (w.ownsRow B 39 3 (.slice (some ⟨g, 0, none⟩) (A.length + 1) cap) (A.length + 1) (cells (A ++ [⟨s, o, l⟩]))) := ho
  have hf : Hid (fol ⟨s, o, l⟩ ⟨s', o', l'⟩ = false) := by have := hne.out; unfold Hid fol; simp; try omega
  clear ho hown
  go_enter Try.func27, Try.ntmps27
  go_wp2
  go_region
  go_wp2_with (at_builtin; refine wpList_append_own _ rfl (.tmp 52) (.tmp 54) 22 rfl B 39 i0 (.agg #[.int .i64 0, .int .i64 0, .int .i64 0]) 3 24 Try.underlying22 hi hz0 hz1 hz2 rfl (by decide) (.slice (some ⟨g, 0, none⟩) (A.length + 1) cap) (A.length + 1) (cells (A ++ [⟨s, o, l⟩])) rfl (own_drew ((HW.out.alloc _).alloc _)) ⟨w.heap.size + 1, 0, none⟩ 1 1 [.int .i64 s', .int .i64 o', .int .i64 l'] rfl rfl ?qd2 (one3 s' o' l') ?qd4 ?qd5 ?qd6 ?_)
  case qd2 => intro j u hj; have := put_cells (w.alloc (.cells #[.int .i64 s', .int .i64 o', .int .i64 l'] 39)) s' o' l' j u hj; rw [show (w.alloc (.cells #[.int .i64 s', .int .i64 o', .int .i64 l'] 39)).heap.size = w.heap.size + 1 from by simp] at this; exact this
  case qd4 => unfold maxLen; omega
  case qd5 => omega
  case qd6 => have := hB.out; simp; omega
  intro v' w2 hown hgrow _
  have HG : Hid (((w.alloc (.cells #[.int .i64 s', .int .i64 o', .int .i64 l'] 39)).alloc (.cells #[.int .i64 s', .int .i64 o', .int .i64 l'] 39)).drew.grownBy w2 (some g)) := hgrow
  have HO : Hid (w2.ownsRow B 39 3 v' (A.length + 1 + 1) (cells (A ++ [⟨s, o, l⟩]) ++ [.int .i64 s', .int .i64 o', .int .i64 l'])) := hown
  clear hgrow hown
  go_wp2
  go_ret
  rw [putL_far hl hf.out]
  have := hB.out
  have hsz := HG.out.size
  simp at hsz
  refine ⟨v', rfl, ?_, ?_, by omega⟩
  · rw [cells_append]; simpa [cells, Sp.cs] using HO.out
  · exact (((hb.out.alloc hB.out _).alloc (by simp; omega) _).drew).grown HG.out (by simp; omega) (fun k hk => by simp at hk; omega)

set_option maxHeartbeats 2000000 in
theorem lay_far2 (B : Nat) (w0 : World) (A : List Sp) (v : Value) (s o l o' l' : Int) (w : World) (hl : ¬ l' = 0) (hr1 : rgt ⟨s, o, l⟩ = true) (hne : Hid (¬ o + l = o')) (hz : (A.length + 2) * 24 ≤ 140737488355328) (hown : Hid (w.ownsRow B 39 3 v (A ++ [(⟨s, o, l⟩ : Sp)]).length (cells (A ++ [⟨s, o, l⟩])))) (hb : Hid (Below B w0 w)) (hB : Hid (B ≤ w.heap.size)) :
    Calls Try.prog 27 #[v, .agg #[.int .i64 s, .int .i64 o', .int .i64 l']] w fun e w' => Gave B w0 (putL (A ++ [⟨s, o, l⟩]) ⟨s, o', l'⟩) e w' := by
  obtain ⟨g, cap, rfl, hBg, hg, c0, c1, c2, f2⟩ := own_last hown.out
  obtain ⟨i0, hi, hz0, hz1, hz2⟩ := info_parts info39
  have hl0 : (l' == 0) = false := by simpa using hl
  have hq : ((o + l) == o') = false := by have := hne.out; simpa using this
  have r1 := (rgt_iff _).1 hr1
  dsimp only at r1
  have i1 : (0 : Int) ≤ (A.length : Int) := by omega
  have i2 : (A.length : Int) < (A.length : Int) + 1 := by omega
  have ho := hown.out
  rw [show (A ++ [(⟨s, o, l⟩ : Sp)]).length = A.length + 1 from by simp] at ho
  have HW : Hid (w.ownsRow B 39 3 (.slice (some ⟨g, 0, none⟩) (A.length + 1) cap) (A.length + 1) (cells (A ++ [⟨s, o, l⟩]))) := ho
  have hf : Hid (fol ⟨s, o, l⟩ ⟨s, o', l'⟩ = false) := by have := hne.out; unfold Hid fol; simp; try omega
  clear ho hown
  go_enter Try.func27, Try.ntmps27
  go_wp2
  go_region
  go_wp2_with (at_builtin; refine wpList_append_own _ rfl (.tmp 52) (.tmp 54) 22 rfl B 39 i0 (.agg #[.int .i64 0, .int .i64 0, .int .i64 0]) 3 24 Try.underlying22 hi hz0 hz1 hz2 rfl (by decide) (.slice (some ⟨g, 0, none⟩) (A.length + 1) cap) (A.length + 1) (cells (A ++ [⟨s, o, l⟩])) rfl (own_drew ((HW.out.alloc _).alloc _)) ⟨w.heap.size + 1, 0, none⟩ 1 1 [.int .i64 s, .int .i64 o', .int .i64 l'] rfl rfl ?qd2 (one3 s o' l') ?qd4 ?qd5 ?qd6 ?_)
  case qd2 => intro j u hj; have := put_cells (w.alloc (.cells #[.int .i64 s, .int .i64 o', .int .i64 l'] 39)) s o' l' j u hj; rw [show (w.alloc (.cells #[.int .i64 s, .int .i64 o', .int .i64 l'] 39)).heap.size = w.heap.size + 1 from by simp] at this; exact this
  case qd4 => unfold maxLen; omega
  case qd5 => omega
  case qd6 => have := hB.out; simp; omega
  intro v' w2 hown hgrow _
  have HG : Hid (((w.alloc (.cells #[.int .i64 s, .int .i64 o', .int .i64 l'] 39)).alloc (.cells #[.int .i64 s, .int .i64 o', .int .i64 l'] 39)).drew.grownBy w2 (some g)) := hgrow
  have HO : Hid (w2.ownsRow B 39 3 v' (A.length + 1 + 1) (cells (A ++ [⟨s, o, l⟩]) ++ [.int .i64 s, .int .i64 o', .int .i64 l'])) := hown
  clear hgrow hown
  go_wp2
  go_ret
  rw [putL_far hl hf.out]
  have := hB.out
  have hsz := HG.out.size
  simp at hsz
  refine ⟨v', rfl, ?_, ?_, by omega⟩
  · rw [cells_append]; simpa [cells, Sp.cs] using HO.out
  · exact (((hb.out.alloc hB.out _).alloc (by simp; omega) _).drew).grown HG.out (by simp; omega) (fun k hk => by simp at hk; omega)

set_option maxHeartbeats 2000000 in
theorem lay_first (B : Nat) (w0 : World) (ao : Option Addr) (cap : Nat) (s' o' l' : Int) (w : World) (hl : ¬ l' = 0) (hown : Hid (w.ownsRow B 39 3 (.slice ao 0 cap) 0 [])) (hb : Hid (Below B w0 w)) (hB : Hid (B ≤ w.heap.size)) :
    Calls Try.prog 27 #[.slice ao 0 cap, .agg #[.int .i64 s', .int .i64 o', .int .i64 l']] w fun e w' => Gave B w0 (putL [] ⟨s', o', l'⟩) e w' := by
  obtain ⟨i0, hi, hz0, hz1, hz2⟩ := info_parts info39
  have hl0 : (l' == 0) = false := by simpa using hl
  go_enter Try.func27, Try.ntmps27
  go_wp2
  go_region
  go_wp2_with (at_builtin; refine wpList_append_own _ rfl (.tmp 52) (.tmp 54) 22 rfl B 39 i0 (.agg #[.int .i64 0, .int .i64 0, .int .i64 0]) 3 24 Try.underlying22 hi hz0 hz1 hz2 rfl (by decide) (.slice ao 0 cap) 0 [] rfl (own_drew ((hown.out.alloc _).alloc _)) ⟨w.heap.size + 1, 0, none⟩ 1 1 [.int .i64 s', .int .i64 o', .int .i64 l'] rfl rfl ?qd2 (one3 s' o' l') ?qd4 ?qd5 ?qd6 ?_)
  case qd2 => intro j u hj; have := put_cells (w.alloc (.cells #[.int .i64 s', .int .i64 o', .int .i64 l'] 39)) s' o' l' j u hj; rw [show (w.alloc (.cells #[.int .i64 s', .int .i64 o', .int .i64 l'] 39)).heap.size = w.heap.size + 1 from by simp] at this; exact this
  case qd4 => unfold maxLen; omega
  case qd5 => omega
  case qd6 => have := hB.out; simp; omega
  intro v' w2 hown2 hgrow _
  have HG : Hid (((w.alloc (.cells #[.int .i64 s', .int .i64 o', .int .i64 l'] 39)).alloc (.cells #[.int .i64 s', .int .i64 o', .int .i64 l'] 39)).drew.grownBy w2 (Value.slice ao 0 cap).ownBlock) := hgrow
  have HO : Hid (w2.ownsRow B 39 3 v' (0 + 1) ([] ++ [.int .i64 s', .int .i64 o', .int .i64 l'])) := hown2
  clear hgrow hown2
  go_wp2
  go_ret
  rw [putL_nil hl]
  have := hB.out
  have hsz := HG.out.size
  simp at hsz
  refine ⟨v', rfl, by simpa [cells, Sp.cs] using HO.out, ?_, by omega⟩
  exact (((hb.out.alloc hB.out _).alloc (by simp; omega) _).drew).grown HG.out (by simp; omega) (fun k hk => by have := (hown.out.lt k hk).1; omega)

/-- lay, of whatever right span -/
theorem lay_any (B : Nat) (w0 : World) (A : List Sp) (v : Value) (p : Sp) (w : World) (hA : okL A = true) (hp : rgt p = true) (hz : (A.length + 1) * 24 ≤ 140737488355328) (hown : w.ownsRow B 39 3 v A.length (cells A)) (hb : Below B w0 w) (hB : B ≤ w.heap.size) :
    Calls Try.prog 27 #[v, .agg #[.int .i64 p.s, .int .i64 p.o, .int .i64 p.l]] w fun e w' => Gave B w0 (putL A p) e w' := by
  obtain ⟨s', o', l'⟩ := p
  dsimp only
  by_cases hl : l' = 0
  · subst hl
    exact lay_zero B w0 A v s' o' w hown hb hB
  · rcases snoc_cases A with rfl | ⟨A, ⟨s, o, l⟩, rfl⟩
    · obtain ⟨ao, cap, rfl⟩ := own_shape hown
      exact lay_first B w0 ao cap s' o' l' w hl hown hb hB
    · have hr : rgt ⟨s, o, l⟩ = true := okL_mem hA (by simp)
      simp at hz
      cases hf : fol ⟨s, o, l⟩ ⟨s', o', l'⟩ with
      | true =>
        have h3 : s = s' ∧ o + l = o' := by unfold fol at hf; simpa using hf
        obtain ⟨rfl, rfl⟩ := h3
        exact lay_join B w0 A v s o l l' w hl hr hp (by omega) hown hb hB
      | false =>
        by_cases hs : s = s'
        · subst hs
          exact lay_far2 B w0 A v s o l o' l' w hl hr (by intro h; rw [← h] at hf; simp [fol] at hf) (by omega) hown hb hB
        · exact lay_far1 B w0 A v s o l s' o' l' w hl hr hs (by omega) hown hb hB
end Go.Proofs.Ytjjgloioppjcaaa
