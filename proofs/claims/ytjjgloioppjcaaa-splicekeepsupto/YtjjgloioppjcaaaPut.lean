/- The contract of put: a span behind a packed list. -/
import Derived.Test.YtjjgloioppjcaaaSize
namespace Go.Proofs.Ytjjgloioppjcaaa
open Go.RowKit

theorem own_keep {w w' : World} {base e size n : Nat} {v : Value} {xs : List Value} (h : w.ownsRow base e size v n xs) (hb : Below w.heap.size w w') : w'.ownsRow base e size v n xs := by
  refine ⟨h.1, ?_⟩
  rcases h.2 with h0 | ⟨g, cap, cur, rfl, hb', hg, rest⟩
  · exact .inl h0
  · exact .inr ⟨g, cap, cur, rfl, hb', by rw [hb.block g (Array.getElem?_eq_some_iff.1 hg).1]; exact hg, rest⟩
theorem own_drew {w : World} {base e size n : Nat} {v : Value} {xs : List Value} (h : w.ownsRow base e size v n xs) : w.drew.ownsRow base e size v n xs := h
theorem row_frozen (w : World) (b j : Nat) (cs : Array Value) (t : Nat) (h : w.heap[b]? = some (.cells cs t (0, 0))) : w.frozen? ⟨b, j, none⟩ = false := by
  simp [World.frozen?, h]
/-- the last span of an owned list -/
theorem own_last {w : World} {base n : Nat} {v : Value} {B : List Sp} {s o l : Int} (h : w.ownsRow base 39 3 v n (cells (B ++ [⟨s, o, l⟩]))) :
    ∃ g cap, v = .slice (some ⟨g, 0, none⟩) (B.length + 1) cap ∧ base ≤ g ∧ g < w.heap.size ∧ w.cell? ⟨g, B.length * 3, none⟩ = some (.int .i64 s) ∧ w.cell? ⟨g, B.length * 3 + 1, none⟩ = some (.int .i64 o) ∧ w.cell? ⟨g, B.length * 3 + 2, none⟩ = some (.int .i64 l) ∧ w.frozen? ⟨g, B.length * 3 + 2, none⟩ = false := by
  have hl : n = B.length + 1 := by have := h.1; rw [cells_length] at this; simp at this; omega
  subst hl
  have hp : (B ++ [(⟨s, o, l⟩ : Sp)])[B.length]? = some ⟨s, o, l⟩ := by simp
  rcases h.2 with ⟨_, h0⟩ | ⟨g, cap, cur, rfl, hb, hg, _⟩
  · omega
  · have c := fun i (hi : i < 3) => (h.cellAt (B.length * 3 + i) (by omega)).trans (cells_at hp i hi)
    exact ⟨g, cap, rfl, hb, (Array.getElem?_eq_some_iff.1 hg).1, by simpa [Sp.cs] using c 0 (by omega), by simpa [Sp.cs] using c 1 (by omega), by simpa [Sp.cs] using c 2 (by omega), row_frozen _ _ _ _ _ hg⟩
theorem cells_last (B : List Sp) (s o l k : Int) : (cells (B ++ [⟨s, o, l⟩])).set (B.length * 3 + 2) (.int .i64 k) = cells (B ++ [⟨s, o, k⟩]) := by
  rw [cells_append, cells_append, List.set_append_right _ _ (by rw [cells_length]; omega), cells_length]
  simp [cells, Sp.cs]

set_option maxHeartbeats 1000000 in
theorem follows_any (s o l s' o' l' : Int) (w : World) (h1 : -9223372036854775808 ≤ o + l) (h2 : o + l ≤ 9223372036854775807) :
    Calls Try.prog 38 #[.agg #[.int .i64 s, .int .i64 o, .int .i64 l], .agg #[.int .i64 s', .int .i64 o', .int .i64 l']] w fun e w' => e = .returned (.bool (fol ⟨s, o, l⟩ ⟨s', o', l'⟩)) ∧ Below w.heap.size w w' := by
  by_cases hs : s = s'
  · subst hs
    by_cases ho : o + l = o'
    · have HO : Hid (o + l = o') := ho
      have hb : ((o + l) == o') = true := by simpa using ho
      clear ho
      go_enter Try.func38, Try.ntmps38
      go_wp2
      all_goals go_ret
      all_goals refine ⟨ret_bool ?_, bAlloc (bAlloc (Below.refl _ _) _) _⟩
      all_goals (unfold fol; have := HO.out; simp; try omega)
    · have HO : Hid (¬ o + l = o') := ho
      have hb : ((o + l) == o') = false := by simpa using ho
      clear ho
      go_enter Try.func38, Try.ntmps38
      go_wp2
      all_goals go_ret
      all_goals refine ⟨ret_bool ?_, bAlloc (bAlloc (Below.refl _ _) _) _⟩
      all_goals (unfold fol; have := HO.out; simp; try omega)
  · have HS : Hid (¬ s = s') := hs
    have hb : (s == s') = false := by simpa using hs
    clear hs
    go_enter Try.func38, Try.ntmps38
    go_wp2
    all_goals go_ret
    all_goals refine ⟨ret_bool ?_, bAlloc (bAlloc (Below.refl _ _) _) _⟩
    all_goals (unfold fol; have := HS.out; simp; try omega)

theorem six9 {w w9 : World} {g m : Nat} {s o l s' o' l' : Int} (hb9 : Below (w.alloc (.cells #[.int .i64 s', .int .i64 o', .int .i64 l'] 39)).drew.heap.size (w.alloc (.cells #[.int .i64 s', .int .i64 o', .int .i64 l'] 39)).drew w9) (hg : g < w.heap.size)
    (c0 : w.cell? ⟨g, m, none⟩ = some (.int .i64 s)) (c1 : w.cell? ⟨g, m + 1, none⟩ = some (.int .i64 o)) (c2 : w.cell? ⟨g, m + 2, none⟩ = some (.int .i64 l)) :
    w9.cell? ⟨g, m, none⟩ = some (.int .i64 s) ∧ w9.cell? ⟨g, m + 1, none⟩ = some (.int .i64 o) ∧ w9.cell? ⟨g, m + 2, none⟩ = some (.int .i64 l) ∧ w9.cell? ⟨w.heap.size, 0, none⟩ = some (.int .i64 s') ∧ w9.cell? ⟨w.heap.size, 1, none⟩ = some (.int .i64 o') ∧ w9.cell? ⟨w.heap.size, 2, none⟩ = some (.int .i64 l') := by
  have hk := bA (bD hb9)
  have hk2 := bD hb9
  refine ⟨?_, ?_, ?_, ?_, ?_, ?_⟩
  · rw [hk.cell hg]; exact c0
  · rw [hk.cell hg]; exact c1
  · rw [hk.cell hg]; exact c2
  · rw [hk2.cell (by simp)]; simp
  · rw [hk2.cell (by simp)]; simp
  · rw [hk2.cell (by simp)]; simp

/-- What put gives: a list of the call's own. -/
def Gave (B : Nat) (w0 : World) (A : List Sp) (e : Ending) (w' : World) : Prop :=
  ∃ v', e = .returned v' ∧ w'.ownsRow B 39 3 v' A.length (cells A) ∧ Below B w0 w' ∧ B ≤ w'.heap.size

set_option maxHeartbeats 1000000 in
theorem put_zero (B : Nat) (w0 : World) (A : List Sp) (v : Value) (s o : Int) (w : World) (hown : Hid (w.ownsRow B 39 3 v A.length (cells A))) (hb : Hid (Below B w0 w)) (hB : Hid (B ≤ w.heap.size)) :
    Calls Try.prog 37 #[v, .agg #[.int .i64 s, .int .i64 o, .int .i64 0]] w fun e w' => Gave B w0 (putL A ⟨s, o, 0⟩) e w' := by
  go_enter Try.func37, Try.ntmps37
  go_wp2
  go_ret
  exact ⟨v, rfl, by rw [putL_zero rfl]; exact hown.out.alloc _, hb.out.alloc hB.out _, by have := hB.out; simp; omega⟩

set_option maxHeartbeats 2000000 in
theorem put_join (B : Nat) (w0 : World) (A : List Sp) (v : Value) (s o l s' o' l' : Int) (w : World) (hl : ¬ l' = 0) (hr1 : rgt ⟨s, o, l⟩ = true) (hr2 : rgt ⟨s', o', l'⟩ = true) (hf : Hid (fol ⟨s, o, l⟩ ⟨s', o', l'⟩ = true)) (hz : A.length ≤ 140737488355328) (hown : Hid (w.ownsRow B 39 3 v (A ++ [(⟨s, o, l⟩ : Sp)]).length (cells (A ++ [⟨s, o, l⟩])))) (hb : Hid (Below B w0 w)) (hB : Hid (B ≤ w.heap.size)) :
    Calls Try.prog 37 #[v, .agg #[.int .i64 s', .int .i64 o', .int .i64 l']] w fun e w' => Gave B w0 (putL (A ++ [⟨s, o, l⟩]) ⟨s', o', l'⟩) e w' := by
  obtain ⟨g, cap, rfl, hBg, hg, c0, c1, c2, f2⟩ := own_last hown.out
  have hl0 : (l' == 0) = false := by simpa using hl
  have r1 := (rgt_iff _).1 hr1
  have r2 := (rgt_iff _).1 hr2
  dsimp only at r1 r2
  have i1 : (0 : Int) ≤ (A.length : Int) := by omega
  have i2 : (A.length : Int) < (A.length : Int) + 1 := by omega
  go_enter Try.func37, Try.ntmps37
  go_wp2
  go_region_held3 (fun w' => w'.cell? ⟨g, A.length * 3, none⟩ = some (.int .i64 s) ∧ w'.cell? ⟨g, A.length * 3 + 1, none⟩ = some (.int .i64 o) ∧ w'.cell? ⟨g, A.length * 3 + 2, none⟩ = some (.int .i64 l) ∧ w'.cell? ⟨w.heap.size, 0, none⟩ = some (.int .i64 s') ∧ w'.cell? ⟨w.heap.size, 1, none⟩ = some (.int .i64 o') ∧ w'.cell? ⟨w.heap.size, 2, none⟩ = some (.int .i64 l')) (first | assumption | simp [*, go_sem])
    (first | (go_at_call 38; refine (follows_any s o l s' o' l' _ (by omega) (by omega)).mono ?_; rintro e w9 ⟨rfl, hb9⟩; rw [hf.out]; have k9 := six9 hb9 hg c0 c1 c2))
  obtain ⟨d0, d1, d2, d3, d4, d5⟩ := k9
  have hk := bA (bD hb9)
  have e2 : w9.frozen? ⟨g, A.length * 3 + 2, none⟩ = false := by rw [hk.frozen hg]; exact f2
  have HK : Hid (Below w.heap.size w w9) := hk
  clear hb9 hk c0 c1 c2 f2
  go_wp2
  go_region
  go_wp2
  go_ret
  rw [putL_join hl hf.out]
  have ho := own_keep hown.out HK.out
  rw [show (A ++ [(⟨s, o, l⟩ : Sp)]).length = A.length + 1 from by simp] at ho
  obtain ⟨q1, q2⟩ := ho.stored (A.length * 3 + 2) (.int .i64 (l + l'))
  rw [cells_last] at q1
  refine ⟨_, rfl, own_drew (by simpa using q1), ?_, ?_⟩
  · have hs := HK.out.size
    have := hB.out
    exact ((hb.out.trans (HK.out.mono hB.out)).setCell (p := ⟨g, A.length * 3 + 2, none⟩) hBg _).drew
  · have hs := HK.out.size
    have := hB.out
    simp; omega

theorem put_cells (w : World) (s o l : Int) : ∀ j u, ([Value.int .i64 s, .int .i64 o, .int .i64 l])[j]? = some u → (w.alloc (.cells #[.int .i64 s, .int .i64 o, .int .i64 l] 39)).cell? ((⟨w.heap.size, 0, none⟩ : Addr).add j) = some u := fun j u h => lit_cells w _ 39 j u h
theorem one3 (s o l : Int) : ∀ u ∈ [Value.int .i64 s, .int .i64 o, .int .i64 l], u.oneCell' = true := by
  intro u hu; simp at hu; rcases hu with rfl | rfl | rfl <;> rfl

set_option maxHeartbeats 2000000 in
theorem put_far (B : Nat) (w0 : World) (A : List Sp) (v : Value) (s o l s' o' l' : Int) (w : World) (hl : ¬ l' = 0) (hr1 : rgt ⟨s, o, l⟩ = true) (hf : Hid (fol ⟨s, o, l⟩ ⟨s', o', l'⟩ = false)) (hz : (A.length + 2) * 24 ≤ 140737488355328) (hown : Hid (w.ownsRow B 39 3 v (A ++ [(⟨s, o, l⟩ : Sp)]).length (cells (A ++ [⟨s, o, l⟩])))) (hb : Hid (Below B w0 w)) (hB : Hid (B ≤ w.heap.size)) :
    Calls Try.prog 37 #[v, .agg #[.int .i64 s', .int .i64 o', .int .i64 l']] w fun e w' => Gave B w0 (putL (A ++ [⟨s, o, l⟩]) ⟨s', o', l'⟩) e w' := by
  obtain ⟨g, cap, rfl, hBg, hg, c0, c1, c2, f2⟩ := own_last hown.out
  obtain ⟨i0, hi, hz0, hz1, hz2⟩ := info_parts info39
  have hl0 : (l' == 0) = false := by simpa using hl
  have r1 := (rgt_iff _).1 hr1
  dsimp only at r1
  have i1 : (0 : Int) ≤ (A.length : Int) := by omega
  have i2 : (A.length : Int) < (A.length : Int) + 1 := by omega
  have ho := hown.out
  rw [show (A ++ [(⟨s, o, l⟩ : Sp)]).length = A.length + 1 from by simp] at ho
  have HW : Hid (w.ownsRow B 39 3 (.slice (some ⟨g, 0, none⟩) (A.length + 1) cap) (A.length + 1) (cells (A ++ [⟨s, o, l⟩]))) := ho
  clear ho hown
  go_enter Try.func37, Try.ntmps37
  go_wp2
  go_region_held3 (fun w' => w'.cell? ⟨g, A.length * 3, none⟩ = some (.int .i64 s) ∧ w'.cell? ⟨g, A.length * 3 + 1, none⟩ = some (.int .i64 o) ∧ w'.cell? ⟨g, A.length * 3 + 2, none⟩ = some (.int .i64 l) ∧ w'.cell? ⟨w.heap.size, 0, none⟩ = some (.int .i64 s') ∧ w'.cell? ⟨w.heap.size, 1, none⟩ = some (.int .i64 o') ∧ w'.cell? ⟨w.heap.size, 2, none⟩ = some (.int .i64 l')) (first | assumption | simp [*, go_sem])
    (first | (go_at_call 38; refine (follows_any s o l s' o' l' _ (by omega) (by omega)).mono ?_; rintro e w9 ⟨rfl, hb9⟩; rw [hf.out]; have k9 := six9 hb9 hg c0 c1 c2))
  obtain ⟨d0, d1, d2, d3, d4, d5⟩ := k9
  have hk := bA (bD hb9)
  have HK : Hid (Below w.heap.size w w9) := hk
  have HW9 : Hid (w9.ownsRow B 39 3 (.slice (some ⟨g, 0, none⟩) (A.length + 1) cap) (A.length + 1) (cells (A ++ [⟨s, o, l⟩]))) := own_keep HW.out hk
  clear hb9 hk c0 c1 c2 f2 HW
  go_wp2_with (at_builtin; refine wpList_append_own _ rfl (.tmp 34) (.tmp 36) 22 rfl B 39 i0 (.agg #[.int .i64 0, .int .i64 0, .int .i64 0]) 3 24 Try.underlying22 hi hz0 hz1 hz2 rfl (by decide) _ (A.length + 1) (cells (A ++ [⟨s, o, l⟩])) rfl (HW9.out.alloc _) ⟨w9.heap.size, 0, none⟩ 1 1 [.int .i64 s', .int .i64 o', .int .i64 l'] rfl rfl (put_cells w9 s' o' l') (one3 s' o' l') ?qd4 ?qd5 ?qd6 ?_)
  case qd4 => unfold maxLen; omega
  case qd5 => omega
  case qd6 => have := HK.out.size; have := hB.out; simp; omega
  intro v' w2 hown hgrow _
  have HG : Hid ((w9.alloc (.cells #[.int .i64 s', .int .i64 o', .int .i64 l'] 39)).grownBy w2 (some g)) := hgrow
  have HO : Hid (w2.ownsRow B 39 3 v' (A.length + 1 + 1) (cells (A ++ [⟨s, o, l⟩]) ++ [.int .i64 s', .int .i64 o', .int .i64 l'])) := hown
  clear hgrow hown
  go_wp2
  go_ret
  rw [putL_far hl hf.out]
  refine ⟨v', rfl, ?_, ?_, ?_⟩
  · rw [cells_append]; simpa [cells, Sp.cs] using HO.out
  · have := HK.out.size
    have := hB.out
    exact ((hb.out.trans (HK.out.mono hB.out)).alloc (by omega) _).grown HG.out (by simp; omega) (fun k hk => by simp at hk; omega)
  · have := HK.out.size
    have := hB.out
    have := HG.out.size
    simp at this
    omega

end Go.Proofs.Ytjjgloioppjcaaa
