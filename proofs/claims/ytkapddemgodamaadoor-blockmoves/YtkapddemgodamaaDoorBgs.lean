/- A sentence begins, by the program's words and by the document's: one and the same; no program. -/
import Derived.Test.YtkapddemgodamaaDoorRbg
import Derived.Test.YtkapddemgodamaaDoorStopW
import Derived.Lib.IndexMore
namespace Go.Proofs.YtkapddemgodamaaDoor

theorem gp_gab {l : List UInt8} {k : Nat} (h : k < l.length) : gp l k = gab (bi l k) := by
  have := kd_gap (bi l k)
  unfold gp gab blk
  rw [ka_lt h, Bool.eq_iff_iff]
  simp only [Bool.or_eq_true, decide_eq_true_iff, beq_iff_eq]
  rw [this]
  constructor
  · rintro (e | e | e)
    · exact .inl (.inl e)
    · exact .inl (.inr e)
    · exact .inr e
  · rintro ((e | e) | e)
    · exact .inl e
    · exact .inr (.inl e)
    · exact .inr (.inr e)
theorem gs_edge {l : List UInt8} : ∀ {k : Nat}, k ≤ l.length → 0 < gs l k → gab (bi l (gs l k - 1)) = false
  | 0, _, h => by simp [gs] at h
  | k + 1, hk, h => by
    unfold gs at h ⊢
    split at h
    · next hg => rw [if_pos hg]; exact gs_edge (by omega) h
    · next hg => rw [if_neg hg, Nat.add_sub_cancel, ← gp_gab (by omega)]; simpa using hg
/-- a double line end in the gap -/
def dbl (l : List UInt8) (a b : Nat) : Prop := ∃ j, a ≤ j ∧ j < b ∧ 0 < j ∧ bi l j = 10 ∧ bi l (j - 1) = 10
theorem bgr_iff {l : List UInt8} {b : Nat} (hb : b < l.length) : ∀ p, p ≤ b → (bgr l b p = true ↔ gs l p = 0 ∨ dbl l (gs l p) p ∨ (0 < gs l p ∧ gs l p < b ∧ fin l (gs l p) = true))
  | 0, _ => by simp [bgr, gs]
  | p + 1, hp => by
    have ih := bgr_iff hb p (by omega)
    rw [bgr]
    by_cases hg : gab (bi l p) = true
    · rw [if_pos hg, gs_step (by rw [gp_gab (by omega)]; exact hg)]
      by_cases hd : bi l p = 10 ∧ (p = 0 ∨ bi l (p - 1) = 10)
      · rw [if_pos hd]
        refine ⟨fun _ => ?_, fun _ => rfl⟩
        rcases Nat.eq_zero_or_pos p with e | e
        · subst e; exact .inl rfl
        · exact .inr (.inl ⟨p, gs_le l p, by omega, e, hd.1, by rcases hd.2 with h | h; omega; exact h⟩)
      · rw [if_neg hd, ih]
        constructor
        · rintro (h | ⟨j, h1, h2, h3, h4, h5⟩ | h)
          · exact .inl h
          · exact .inr (.inl ⟨j, h1, by omega, h3, h4, h5⟩)
          · exact .inr (.inr h)
        · rintro (h | ⟨j, h1, h2, h3, h4, h5⟩ | h)
          · exact .inl h
          · rcases Nat.eq_or_lt_of_le (show j ≤ p by omega) with e | e
            · subst e; exact absurd ⟨h4, .inr h5⟩ hd
            · exact .inr (.inl ⟨j, h1, e, h3, h4, h5⟩)
          · exact .inr (.inr h)
    · have hg' : gab (bi l p) = false := by simpa using hg
      rw [if_neg hg, gs_stop (by rw [gp_gab (by omega)]; exact hg'), Bool.and_eq_true, decide_eq_true_iff]
      constructor
      · rintro ⟨h1, h2⟩; exact .inr (.inr ⟨by omega, h1, h2⟩)
      · rintro (h | ⟨j, h1, h2, _⟩ | ⟨_, h1, h2⟩)
        · omega
        · omega
        · exact ⟨h1, h2⟩
theorem cl0_cut {l : List UInt8} : ∀ {k : Nat}, (∀ j, cl0 l k ≤ j → j < k → clo (bi l j) = true) ∧ (0 < cl0 l k → clo (bi l (cl0 l k - 1)) = false)
  | 0 => ⟨fun j h1 h2 => by omega, fun h => by simp [cl0] at h⟩
  | k + 1 => by
    obtain ⟨h1, h2⟩ := cl0_cut (l := l) (k := k)
    unfold cl0
    by_cases hc : clo (bi l k) = true
    · rw [if_pos hc]
      refine ⟨fun j hj hj2 => ?_, h2⟩
      rcases Nat.eq_or_lt_of_le (show j ≤ k by omega) with e | e
      · subst e; exact hc
      · exact h1 j hj e
    · rw [if_neg hc]
      exact ⟨fun j hj hj2 => by omega, fun _ => by rw [Nat.add_sub_cancel]; simpa using hc⟩
theorem clo_mem (b : UInt8) : clo (b.toNat : Int) = [41, 93, 34, 39].contains b := by
  have h : ∀ c : UInt8, ((b.toNat : Int) == (c.toNat : Int)) = (b == c) := fun c => by
    rw [Bool.eq_iff_iff, beq_iff_eq, beq_iff_eq]
    constructor
    · intro e; exact UInt8.toNat_inj.1 (by omega)
    · intro e; rw [e]
  have h1 := h 41
  have h2 := h 93
  have h3 := h 34
  have h4 := h 39
  unfold clo
  simp only [List.contains_cons, List.contains_nil, Bool.or_false]
  rw [show ((b.toNat : Int) == 41) = (b == 41) from h1, show ((b.toNat : Int) == 93) = (b == 93) from h2, show ((b.toNat : Int) == 34) = (b == 34) from h3, show ((b.toNat : Int) == 39) = (b == 39) from h4]
  cases b == 41 <;> cases b == 93 <;> cases b == 34 <;> cases b == 39 <;> rfl
theorem mk3_em (b : UInt8) : mk3 (b.toNat : Int) = em b := by
  have h : ∀ c : UInt8, ((b.toNat : Int) == (c.toNat : Int)) = (b == c) := fun c => by
    rw [Bool.eq_iff_iff, beq_iff_eq, beq_iff_eq]
    constructor
    · intro e; exact UInt8.toNat_inj.1 (by omega)
    · intro e; rw [e]
  have h1 := h 46
  have h2 := h 33
  have h3 := h 63
  unfold mk3 em
  simp only [List.contains_cons, List.contains_nil, Bool.or_false]
  rw [show ((b.toNat : Int) == 46) = (b == 46) from h1, show ((b.toNat : Int) == 33) = (b == 33) from h2, show ((b.toNat : Int) == 63) = (b == 63) from h3]
  cases b == 46 <;> cases b == 33 <;> cases b == 63 <;> rfl
theorem trm_cl0 {l : List UInt8} {g : Nat} (hg : g ≤ l.length) : trm (l.take g) = cl0 l g := by
  have hk := cl0_le l g
  obtain ⟨h1, h2⟩ := cl0_cut (l := l) (k := g)
  have hb : ∀ j b, (l.take g)[j]? = some b → j < g ∧ bi l j = (b.toNat : Int) := fun j b h => by
    have hj : j < (l.take g).length := (List.getElem?_eq_some_iff.1 h).1
    have hj2 : j < g := by rw [List.length_take] at hj; omega
    refine ⟨hj2, ?_⟩
    rw [List.getElem?_take, if_pos hj2] at h
    unfold bi at8
    rw [List.getD_eq_getElem?_getD, h]; rfl
  have := Lib.trimRightS_take (l.take g) [41, 93, 34, 39] (cl0 l g) (by rw [List.length_take]; omega)
    (fun j b hj h => by obtain ⟨e1, e2⟩ := hb j b h; rw [← clo_mem, ← e2]; exact h1 j hj e1)
    (fun b h0 h => by obtain ⟨e1, e2⟩ := hb _ b h; rw [← clo_mem, ← e2]; exact h2 h0)
  unfold trm
  rw [this, List.length_take, List.length_take]
  omega
theorem es_fin {l : List UInt8} {g : Nat} (hg : g ≤ l.length) : es (l.take g) = fin l g := by
  unfold es fin
  rw [trm_cl0 hg]
  rcases Nat.eq_zero_or_pos (cl0 l g) with e | e
  · rw [e]; rfl
  · have hk := cl0_le l g
    have : at8 (l.take g) (cl0 l g - 1) = at8 l (cl0 l g - 1) := by
      unfold at8
      rw [List.getD_eq_getElem?_getD, List.getD_eq_getElem?_getD, List.getElem?_take, if_pos (by omega)]
    rw [this, ← mk3_em]; rfl
end Go.Proofs.YtkapddemgodamaaDoor
