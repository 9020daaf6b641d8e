/- extent.Take refused; what Take tells, plain. -/
import Derived.Test.YtbknnicpdkpmiaaExc
import Derived.Test.YtbknnicpdkpmiaaLent
import Derived.Test.YtbknnicpdkpmiaaLists
namespace Go.Proofs.Ytbknnicpdkpmiaa
open Go.RowKit

set_option maxRecDepth 8000
theorem bv_append (a b : List UInt8) : bv (a ++ b) = bv a ++ bv b := by simp [bv]
/-- is it a range that Take takes -/
def rgB (l : List UInt8) (F T : Int) (L D : Bool) : Bool := decide (0 ≤ F ∧ F ≤ T ∧ T ≤ l.length) && (!(L && D) || leB l F)
/-- the bytes of a range from f to t, d: without the first -/
def tkb (l : List UInt8) (f t : Nat) (d : Bool) : List UInt8 := (l.drop (f + d.toNat)).take (t - (f + d.toNat))
/-- does a text lack a line end -/
def lack (b : List UInt8) : Bool := !leB b ((b.length : Int) - 1)
/-- what Take tells -/
def tk (l : List UInt8) (f t : Nat) (L D : Bool) : List UInt8 := if (L && (D || lack (tkb l f t (L && D)))) = true then tkb l f t (L && D) ++ [10] else tkb l f t (L && D)
/-- a register as a call gives it -/
def tr (s L : Bool) (v : Value) (e : Int) : Ending := .returned (.tuple #[.agg #[.bool s, .bool L, v], .int .i64 e])
theorem own_set {W : World} {base e s n k j : Nat} {v u : Value} {xs : List Value} (h : W.ownsRow base e s v n xs) (hk : k < base) : (W.setCell ⟨k, j, none⟩ u).ownsRow base e s v n xs := by
  refine ⟨h.1, ?_⟩
  rcases h.2 with h0 | ⟨g, cap, cur, rfl, hb', hg, rest⟩
  · exact .inl h0
  · exact .inr ⟨g, cap, cur, rfl, hb', by rw [heap_setCell_other _ _ _ _ (show g ≠ k by omega)]; exact hg, rest⟩
theorem own_drew {W : World} {base e s n : Nat} {v : Value} {xs : List Value} (h : W.ownsRow base e s v n xs) : W.drew.ownsRow base e s v n xs := h
theorem bset3' {w W : World} (h : Below w.heap.size w W) (a b c : Value) : Below w.heap.size w (((W.setCell ⟨w.heap.size + 1, 0, none⟩ a).setCell ⟨w.heap.size + 1, 1, none⟩ b).setCell ⟨w.heap.size + 1, 2, none⟩ c) :=
  bset (bset (bset h _ (Nat.le_succ _)) _ (Nat.le_succ _)) _ (Nat.le_succ _)
theorem own_set3 {W : World} {b e s n : Nat} {v x y z : Value} {xs : List Value} (h : W.ownsRow (b + 2) e s v n xs) : (((W.setCell ⟨b + 1, 0, none⟩ x).setCell ⟨b + 1, 1, none⟩ y).setCell ⟨b + 1, 2, none⟩ z).ownsRow b e s v n xs :=
  own_lower (own_set (own_set (own_set h (by omega)) (by omega)) (by omega)) (by omega)
theorem bAlloc' {n : Nat} {w : World} (h : n ≤ w.heap.size) (o : Obj) : Below n w (w.alloc o) := (Below.refl n w).alloc h o
/-- the boxed range and the empty register, behind what is done -/
theorem tk_cells {w W : World} {F T : Int} {L D : Bool} (hb : Below (w.heap.size + 2) ((w.alloc (.cells #[.int .i64 F, .int .i64 T, .bool L, .bool D] 27)).alloc (.cells #[.bool false, .bool false, .slice none 0 0] 38)) W) :
    W.cell? ⟨w.heap.size, 0, none⟩ = some (.int .i64 F) ∧ W.cell? ⟨w.heap.size, 1, none⟩ = some (.int .i64 T) ∧ W.cell? ⟨w.heap.size, 2, none⟩ = some (.bool L) ∧ W.cell? ⟨w.heap.size, 3, none⟩ = some (.bool D) ∧ W.cell? ⟨w.heap.size + 1, 0, none⟩ = some (.bool false) ∧ W.cell? ⟨w.heap.size + 1, 1, none⟩ = some (.bool false) ∧ W.cell? ⟨w.heap.size + 1, 2, none⟩ = some (.slice none 0 0) ∧ W.frozen? ⟨w.heap.size + 1, 0, none⟩ = false ∧ W.frozen? ⟨w.heap.size + 1, 1, none⟩ = false ∧ W.frozen? ⟨w.heap.size + 1, 2, none⟩ = false ∧ w.heap.size + 1 < W.heap.size := by
  have e2 : W.heap[w.heap.size + 1]? = some (.cells #[.bool false, .bool false, .slice none 0 0] 38) := by
    rw [hb.block _ (by omega)]
    have := heap_alloc_new (w.alloc (.cells #[.int .i64 F, .int .i64 T, .bool L, .bool D] 27)) (.cells #[.bool false, .bool false, .slice none 0 0] 38)
    rwa [World.size_alloc] at this
  have e1 : W.heap[w.heap.size]? = some (.cells #[.int .i64 F, .int .i64 T, .bool L, .bool D] 27) := by
    rw [hb.block _ (by omega)]
    have h1 := heap_alloc_new w (.cells #[.int .i64 F, .int .i64 T, .bool L, .bool D] 27)
    have h2 := (bAlloc (Below.refl _ (w.alloc (.cells #[.int .i64 F, .int .i64 T, .bool L, .bool D] 27))) (.cells #[.bool false, .bool false, .slice none 0 0] 38)).block w.heap.size (by simp)
    rw [h2]; exact h1
  have hs := (Array.getElem?_eq_some_iff.1 e2).1
  refine ⟨?_, ?_, ?_, ?_, ?_, ?_, ?_, frozen_of_row _ _ _ _ _ e2, frozen_of_row _ _ _ _ _ e2, frozen_of_row _ _ _ _ _ e2, hs⟩
  · rw [cell_of_row _ _ _ _ _ _ e1]; rfl
  · rw [cell_of_row _ _ _ _ _ _ e1]; rfl
  · rw [cell_of_row _ _ _ _ _ _ e1]; rfl
  · rw [cell_of_row _ _ _ _ _ _ e1]; rfl
  · rw [cell_of_row _ _ _ _ _ _ e2]; rfl
  · rw [cell_of_row _ _ _ _ _ _ e2]; rfl
  · rw [cell_of_row _ _ _ _ _ _ e2]; rfl
set_option maxHeartbeats 2000000 in
theorem take_no (ao : Option Addr) (n c : Nat) (F T : Int) (L D : Bool) (l : List UInt8) (w : World) (HT : Hid (Tx w ao n c l)) (h : rgB l F T L D = false) :
    Calls Try.prog 14 #[.slice ao n c, .agg #[.int .i64 F, .int .i64 T, .bool L, .bool D]] w fun e w' => e = tr false false (.slice none 0 0) 2 ∧ Below w.heap.size w w' := by
  have hlen := HT.out.len
  unfold rgB at h
  have CL := Hid.mk' (isLE_any ao n c F l _ (HT.out.keep (bAlloc (bAlloc (Below.refl _ w) (.cells #[.int .i64 F, .int .i64 T, .bool L, .bool D] 27)) (.cells #[.bool false, .bool false, .slice none 0 0] 38))))
  rw [hlen] at h
  clear hlen
  by_cases h1 : F < 0
  · clear h
    cases L <;> cases D
    · go_enter Try.func14, Try.ntmps14
      go_wp2_with (go_at_call 30; refine CL.out.mono ?_; rintro e w' ⟨rfl, hw⟩; have hq := hw.symm; subst hq; clear hw)
      all_goals exact bodyPost_ret (v := .tuple #[.agg #[.bool false, .bool false, .slice none 0 0], .int .i64 2]) (by simp [results, Try.results14, go_sem]) rfl ⟨rfl, by first | exact bAlloc (bAlloc (Below.refl _ _) _) _ | exact (bAlloc (bAlloc (Below.refl _ _) _) _).drew⟩
    · go_enter Try.func14, Try.ntmps14
      go_wp2_with (go_at_call 30; refine CL.out.mono ?_; rintro e w' ⟨rfl, hw⟩; have hq := hw.symm; subst hq; clear hw)
      all_goals exact bodyPost_ret (v := .tuple #[.agg #[.bool false, .bool false, .slice none 0 0], .int .i64 2]) (by simp [results, Try.results14, go_sem]) rfl ⟨rfl, by first | exact bAlloc (bAlloc (Below.refl _ _) _) _ | exact (bAlloc (bAlloc (Below.refl _ _) _) _).drew⟩
    · go_enter Try.func14, Try.ntmps14
      go_wp2_with (go_at_call 30; refine CL.out.mono ?_; rintro e w' ⟨rfl, hw⟩; have hq := hw.symm; subst hq; clear hw)
      all_goals exact bodyPost_ret (v := .tuple #[.agg #[.bool false, .bool false, .slice none 0 0], .int .i64 2]) (by simp [results, Try.results14, go_sem]) rfl ⟨rfl, by first | exact bAlloc (bAlloc (Below.refl _ _) _) _ | exact (bAlloc (bAlloc (Below.refl _ _) _) _).drew⟩
    · go_enter Try.func14, Try.ntmps14
      go_wp2_with (go_at_call 30; refine CL.out.mono ?_; rintro e w' ⟨rfl, hw⟩; have hq := hw.symm; subst hq; clear hw)
      all_goals exact bodyPost_ret (v := .tuple #[.agg #[.bool false, .bool false, .slice none 0 0], .int .i64 2]) (by simp [results, Try.results14, go_sem]) rfl ⟨rfl, by first | exact bAlloc (bAlloc (Below.refl _ _) _) _ | exact (bAlloc (bAlloc (Below.refl _ _) _) _).drew⟩
  by_cases h2 : T < F
  · clear h
    cases L <;> cases D
    · go_enter Try.func14, Try.ntmps14
      go_wp2_with (go_at_call 30; refine CL.out.mono ?_; rintro e w' ⟨rfl, hw⟩; have hq := hw.symm; subst hq; clear hw)
      all_goals exact bodyPost_ret (v := .tuple #[.agg #[.bool false, .bool false, .slice none 0 0], .int .i64 2]) (by simp [results, Try.results14, go_sem]) rfl ⟨rfl, by first | exact bAlloc (bAlloc (Below.refl _ _) _) _ | exact (bAlloc (bAlloc (Below.refl _ _) _) _).drew⟩
    · go_enter Try.func14, Try.ntmps14
      go_wp2_with (go_at_call 30; refine CL.out.mono ?_; rintro e w' ⟨rfl, hw⟩; have hq := hw.symm; subst hq; clear hw)
      all_goals exact bodyPost_ret (v := .tuple #[.agg #[.bool false, .bool false, .slice none 0 0], .int .i64 2]) (by simp [results, Try.results14, go_sem]) rfl ⟨rfl, by first | exact bAlloc (bAlloc (Below.refl _ _) _) _ | exact (bAlloc (bAlloc (Below.refl _ _) _) _).drew⟩
    · go_enter Try.func14, Try.ntmps14
      go_wp2_with (go_at_call 30; refine CL.out.mono ?_; rintro e w' ⟨rfl, hw⟩; have hq := hw.symm; subst hq; clear hw)
      all_goals exact bodyPost_ret (v := .tuple #[.agg #[.bool false, .bool false, .slice none 0 0], .int .i64 2]) (by simp [results, Try.results14, go_sem]) rfl ⟨rfl, by first | exact bAlloc (bAlloc (Below.refl _ _) _) _ | exact (bAlloc (bAlloc (Below.refl _ _) _) _).drew⟩
    · go_enter Try.func14, Try.ntmps14
      go_wp2_with (go_at_call 30; refine CL.out.mono ?_; rintro e w' ⟨rfl, hw⟩; have hq := hw.symm; subst hq; clear hw)
      all_goals exact bodyPost_ret (v := .tuple #[.agg #[.bool false, .bool false, .slice none 0 0], .int .i64 2]) (by simp [results, Try.results14, go_sem]) rfl ⟨rfl, by first | exact bAlloc (bAlloc (Below.refl _ _) _) _ | exact (bAlloc (bAlloc (Below.refl _ _) _) _).drew⟩
  by_cases h3 : (n : Int) < T
  · clear h
    cases L <;> cases D
    · go_enter Try.func14, Try.ntmps14
      go_wp2_with (go_at_call 30; refine CL.out.mono ?_; rintro e w' ⟨rfl, hw⟩; have hq := hw.symm; subst hq; clear hw)
      all_goals exact bodyPost_ret (v := .tuple #[.agg #[.bool false, .bool false, .slice none 0 0], .int .i64 2]) (by simp [results, Try.results14, go_sem]) rfl ⟨rfl, by first | exact bAlloc (bAlloc (Below.refl _ _) _) _ | exact (bAlloc (bAlloc (Below.refl _ _) _) _).drew⟩
    · go_enter Try.func14, Try.ntmps14
      go_wp2_with (go_at_call 30; refine CL.out.mono ?_; rintro e w' ⟨rfl, hw⟩; have hq := hw.symm; subst hq; clear hw)
      all_goals exact bodyPost_ret (v := .tuple #[.agg #[.bool false, .bool false, .slice none 0 0], .int .i64 2]) (by simp [results, Try.results14, go_sem]) rfl ⟨rfl, by first | exact bAlloc (bAlloc (Below.refl _ _) _) _ | exact (bAlloc (bAlloc (Below.refl _ _) _) _).drew⟩
    · go_enter Try.func14, Try.ntmps14
      go_wp2_with (go_at_call 30; refine CL.out.mono ?_; rintro e w' ⟨rfl, hw⟩; have hq := hw.symm; subst hq; clear hw)
      all_goals exact bodyPost_ret (v := .tuple #[.agg #[.bool false, .bool false, .slice none 0 0], .int .i64 2]) (by simp [results, Try.results14, go_sem]) rfl ⟨rfl, by first | exact bAlloc (bAlloc (Below.refl _ _) _) _ | exact (bAlloc (bAlloc (Below.refl _ _) _) _).drew⟩
    · go_enter Try.func14, Try.ntmps14
      go_wp2_with (go_at_call 30; refine CL.out.mono ?_; rintro e w' ⟨rfl, hw⟩; have hq := hw.symm; subst hq; clear hw)
      all_goals exact bodyPost_ret (v := .tuple #[.agg #[.bool false, .bool false, .slice none 0 0], .int .i64 2]) (by simp [results, Try.results14, go_sem]) rfl ⟨rfl, by first | exact bAlloc (bAlloc (Below.refl _ _) _) _ | exact (bAlloc (bAlloc (Below.refl _ _) _) _).drew⟩
  rw [decide_eq_true (by omega), Bool.true_and] at h
  have hb : leB l F = false ∧ L = true ∧ D = true := by
    cases L <;> cases D <;> simp_all
  obtain ⟨hb, rfl, rfl⟩ := hb
  rw [hb] at CL
  clear hb h
  go_enter Try.func14, Try.ntmps14
  go_wp2_with (go_at_call 30; refine CL.out.mono ?_; rintro e w' ⟨rfl, hw⟩; have hq := hw.symm; subst hq; clear hw)
  all_goals exact bodyPost_ret (v := .tuple #[.agg #[.bool false, .bool false, .slice none 0 0], .int .i64 2]) (by simp [results, Try.results14, go_sem]) rfl ⟨rfl, by first | exact bAlloc (bAlloc (Below.refl _ _) _) _ | exact (bAlloc (bAlloc (Below.refl _ _) _) _).drew⟩

end Go.Proofs.Ytbknnicpdkpmiaa
