/- The lists of stops hold the stops: sentences; no program. -/
import Derived.Test.YtkapddemgodamaaDoorMem
namespace Go.Proofs.YtkapddemgodamaaDoor

theorem seg_mem (l : List UInt8) (f : Nat → List UInt8) (i q : Nat) : ∀ m, q ∈ seg l f i m ↔ ∃ k, k < m ∧ sgc l f i k = true ∧ q = ap f i + k
  | 0 => by simp [seg]
  | m + 1 => by
    unfold seg
    rw [List.mem_append, seg_mem l f i q m]
    constructor
    · rintro (⟨k, h1, h2, h3⟩ | h)
      · exact ⟨k, by omega, h2, h3⟩
      · split at h
        · next hp => exact ⟨m, by omega, hp, by simpa using h⟩
        · cases h
    · rintro ⟨k, h1, h2, h3⟩
      rcases Nat.eq_or_lt_of_le (show k ≤ m by omega) with e | e
      · subst e; right; rw [if_pos h2]; simpa using h3
      · exact .inl ⟨k, e, h2, h3⟩
theorem seg_up (l : List UInt8) (f : Nat → List UInt8) (i : Nat) : ∀ m, (seg l f i m).Pairwise (· < ·)
  | 0 => List.Pairwise.nil
  | m + 1 => by
    unfold seg
    rw [List.pairwise_append]
    refine ⟨seg_up l f i m, by split <;> simp, fun x hx y hy => ?_⟩
    obtain ⟨k, h1, _, rfl⟩ := (seg_mem l f i x m).1 hx
    split at hy
    · have : y = ap f i + m := by simpa using hy
      omega
    · cases hy
theorem sec_len {K : Nat} {f : Nat → List UInt8} {i : Nat} (h : sec K f i = true) : (f i).length = 0 := by
  unfold sec emq at h
  rw [Bool.and_eq_true, decide_eq_true_iff, Int.toNat_natCast] at h
  exact h.1.2.2
theorem sen_mem (l : List UInt8) (K : Nat) (f : Nat → List UInt8) (q : Nat) : ∀ m, q ∈ sen l K f m ↔ ∃ i, i < m ∧ ((sec K f i = true ∧ q = ap f i) ∨ ∃ k, k < (f i).length ∧ sgc l f i k = true ∧ q = ap f i + k)
  | 0 => by simp [sen]
  | m + 1 => by
    unfold sen
    rw [List.mem_append, List.mem_append, sen_mem l K f q m, seg_mem]
    constructor
    · rintro ((⟨i, h1, h2⟩ | h) | h)
      · exact ⟨i, by omega, h2⟩
      · split at h
        · next hp => exact ⟨m, by omega, .inl ⟨hp, by simpa using h⟩⟩
        · cases h
      · exact ⟨m, by omega, .inr h⟩
    · rintro ⟨i, h1, h2⟩
      rcases Nat.eq_or_lt_of_le (show i ≤ m by omega) with e | e
      · subst e
        rcases h2 with ⟨h2, h3⟩ | h2
        · left; right; rw [if_pos h2]; simpa using h3
        · exact .inr h2
      · exact .inl (.inl ⟨i, e, h2⟩)
theorem sen_lt {l : List UInt8} {K : Nat} {f : Nat → List UInt8} {m x : Nat} (h : x ∈ sen l K f m) : x < ap f m := by
  obtain ⟨i, h1, h2⟩ := (sen_mem l K f x m).1 h
  have := ap_lt f h1
  rcases h2 with ⟨_, rfl⟩ | ⟨k, hk, _, rfl⟩ <;> omega
theorem sen_up (l : List UInt8) (K : Nat) (f : Nat → List UInt8) : ∀ m, (sen l K f m).Pairwise (· < ·)
  | 0 => List.Pairwise.nil
  | m + 1 => by
    unfold sen
    by_cases hs : sec K f m = true
    · rw [if_pos hs, sec_len hs]
      unfold seg
      rw [List.append_nil, List.pairwise_append]
      refine ⟨sen_up l K f m, by simp, fun x hx y hy => ?_⟩
      have := sen_lt hx
      have : y = ap f m := by simpa using hy
      omega
    · rw [if_neg hs, List.append_nil, List.pairwise_append]
      refine ⟨sen_up l K f m, seg_up l f m _, fun x hx y hy => ?_⟩
      have := sen_lt hx
      obtain ⟨k, _, _, rfl⟩ := (seg_mem l f m y _).1 hy
      omega
theorem bi_ln {l : List UInt8} {i k : Nat} (h : i ≤ nl l) (hk : k < (ln l i).length) : bi (ln l i) k = bi l (sp l i + k) := by
  unfold bi at8 ln
  have hk' : k < en l (sp l i) - sp l i := by rw [← ln_length h]; exact hk
  rw [List.getD_eq_getElem?_getD, List.getD_eq_getElem?_getD, List.getElem?_take, if_pos hk', List.getElem?_drop]
theorem sen_sl (l : List UInt8) : Sl (sen l (nl l + 1) (ln l) (nl l + 1)) (st l) l.length := by
  have hone : ∀ i q, i ≤ nl l → sp l i = q → 0 < q → q < l.length → (sec (nl l + 1) (ln l) i = true ↔ be l q = true) := fun i q hi hs h0 hq => by
    have hd := pas_sl_down l
    have hm := hd.mem q h0 hq
    rw [pas_mem] at hm
    rw [← hm]
    have hip : 1 ≤ i := by
      rcases Nat.eq_zero_or_pos i with e | e
      · subst e; rw [sp_zero] at hs; omega
      · exact e
    have hpc : pcd (nl l + 1) (ln l) true i = sec (nl l + 1) (ln l) i := by
      unfold pcd sec oth
      simp only [if_true]
      rw [decide_eq_true (show (0 : Int) ≤ (i : Int) - 1 by omega), decide_eq_true (show (i : Int) - 1 < ((nl l + 1 : Nat) : Int) by omega), Bool.and_true, Bool.and_true]
    constructor
    · intro h; exact ⟨i, by omega, by rw [hpc]; exact h, by rw [ap_sp hi, hs]⟩
    · rintro ⟨j, h1, h2, h3⟩
      rw [ap_sp (by omega)] at h3
      have : j = i := by
        have a := (sp_st (t := l) (n := j) (by omega)).num
        have b := (sp_st (t := l) (n := i) hi).num
        rw [← h3] at a
        rw [hs] at b
        omega
      subst this
      rw [← hpc]; exact h2
  refine ⟨sen_up _ _ _ _, fun x hx => ?_, fun q h0 hq => ?_⟩
  · obtain ⟨i, h1, h2⟩ := (sen_mem _ _ _ x _).1 hx
    have he := ap_ends (l := l) (i := i) (by omega)
    have hl := en_le (sp_le (t := l) (n := i) (by omega))
    rcases h2 with ⟨_, rfl⟩ | ⟨k, hk, _, rfl⟩ <;> omega
  · rw [sen_mem]
    unfold st
    rw [Bool.or_eq_true]
    constructor
    · rintro ⟨i, h1, ⟨h2, h3⟩ | ⟨k, hk, h2, h3⟩⟩
      · rw [ap_sp (by omega)] at h3
        exact .inl ((hone i q (by omega) h3.symm h0 hq).1 h2)
      · right
        rw [ap_sp (by omega)] at h3
        have hb := bi_ln (l := l) (i := i) (by omega) hk
        unfold sgc at h2
        rw [ap_sp (by omega), hb, ← h3] at h2
        rw [bs_bgr hq]
        rw [Bool.and_eq_true] at h2 ⊢
        refine ⟨?_, h2.2⟩
        have hk' : k < en l (sp l i) - sp l i := by rw [← ln_length (by omega)]; exact hk
        have hn := en_none (t := l) (s := sp l i) (j := q) (by omega) (by omega)
        rw [le_bi, decide_eq_false_iff_not] at hn
        unfold gab
        rw [Bool.not_eq_true', Bool.or_eq_false_iff]
        exact ⟨by simpa using h2.1, by simpa using hn⟩
    · rintro (h | h)
      · have hx := (el_iff (l := l) (k := q) (by omega)).1 (by unfold be at h; rw [Bool.and_eq_true] at h; exact h.1)
        obtain ⟨g1, g2⟩ := line_of (l := l) (q := q) (by omega) hx.2
        exact ⟨_, by omega, .inl ⟨(hone _ q g1 g2 h0 hq).2 h, by rw [ap_sp g1, g2]⟩⟩
      · rw [bs_bgr hq, Bool.and_eq_true, Bool.not_eq_true'] at h
        have hg := h.1
        unfold gab at hg
        rw [Bool.or_eq_false_iff] at hg
        have hs := bg_st l q (by omega)
        have hle := bg_le l q
        have hpe := place_en (t := l) (i := q) (by omega)
        have hsp := sp_of l q (by omega)
        have hen : q < en l (bg l q) := by
          rcases Nat.eq_or_lt_of_le hpe with e | e
          · exfalso
            have := en_edge (t := l) (s := bg l q) (by omega)
            rw [← e, le_bi] at this
            have h2 := hg.2
            simp at this h2
            exact h2 this
          · exact e
        have hi : nl (l.take q) ≤ nl l := nl_take_le l q
        have hlen := ln_length hi
        rw [hsp] at hlen
        have hk : q - bg l q < (ln l (nl (l.take q))).length := by omega
        refine ⟨nl (l.take q), by omega, .inr ⟨q - bg l q, hk, ?_, by rw [ap_sp hi, hsp]; omega⟩⟩
        have hb := bi_ln hi hk
        rw [hsp, show bg l q + (q - bg l q) = q by omega] at hb
        unfold sgc
        rw [ap_sp hi, hsp, show bg l q + (q - bg l q) = q by omega, hb, hg.1, h.2]
        rfl
end Go.Proofs.YtkapddemgodamaaDoor
