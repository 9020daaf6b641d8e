/- What Put and Get answer, plain: which registers stay. -/
import Derived.Test.YtienamngmalkaaaPus
namespace Go.Proofs.Ytienamngmalkaaa

theorem putD_s (P : List Ct) (x k : Nat) (c : Ct) : (putD P x k c).s = true := by unfold putD; split <;> rfl
theorem putD_plain {P : List Ct} {x k : Nat} {c : Ct} (h : grt x = false) : putD P x k c = ⟨true, c.l, c.t⟩ := by
  unfold putD; rw [h]; rfl
theorem wle_ge (l : List UInt8) : l.length ≤ (wle l).length := by unfold wle; split <;> simp
theorem putD_ge (P : List Ct) (x k : Nat) (c : Ct) : c.t.length ≤ (putD P x k c).t.length := by
  unfold putD
  split
  · show _ ≤ (bht _ _ _ _).length
    unfold bht
    split
    · have h1 := wle_ge (wle (P.getD k zc).t ++ c.t); rw [List.length_append] at h1; omega
    · rw [List.length_append]; omega
  · exact Nat.le_refl _
/-- Put's answer, the bank -/
def putB (P : List Ct) (k : Nat) (how : Int) (d : Ct) : List Ct := ((if k = 0 then keepL P how d else P).set k d).set 0 d
theorem putP_ok {P : List Ct} {x : Nat} {how : Int} {c : Ct} (h : (putP P x how c).2 = 0) : ∃ k, rix x = some k ∧ (1 ≤ how ∧ how ≤ 3) ∧ c.t.length ≤ 65536 ∧ (c.l && !enl c.t) = false ∧ (putD P x k c).t.length ≤ 65536 ∧ (putP P x how c).1 = putB P k how (putD P x k c) := by
  unfold putP at h ⊢
  cases hk : rix x with
  | none => rw [hk] at h; cases h
  | some k =>
    rw [hk] at h
    dsimp only at h ⊢
    by_cases h1 : decide (1 ≤ how ∧ how ≤ 3) = false
    · rw [if_pos h1] at h; cases h
    · rw [if_neg h1] at h ⊢
      by_cases h2 : 65536 < c.t.length
      · rw [if_pos h2] at h; cases h
      · rw [if_neg h2] at h ⊢
        by_cases h3 : (c.l && !enl c.t) = true
        · rw [if_pos h3] at h; cases h
        · rw [if_neg h3] at h ⊢
          by_cases h4 : 65536 < (putD P x k c).t.length
          · rw [if_pos h4] at h; cases h
          · rw [if_neg h4]
            exact ⟨k, rfl, by simpa using h1, by omega, by simpa using h3, by omega, rfl⟩
theorem putP_no {P : List Ct} {x : Nat} {how : Int} {c : Ct} (h : (putP P x how c).2 ≠ 0) : (putP P x how c).1 = zP ∧ ((putP P x how c).2 = 150 ∧ rix x = none ∨ (putP P x how c).2 = 1 ∨ (putP P x how c).2 = 2) := by
  unfold putP at h ⊢
  cases hk : rix x with
  | none => exact ⟨rfl, .inl ⟨rfl, rfl⟩⟩
  | some k =>
    rw [hk] at h
    dsimp only at h ⊢
    split
    · exact ⟨rfl, .inr (.inr rfl)⟩
    · split
      · exact ⟨rfl, .inr (.inl rfl)⟩
      · split
        · exact ⟨rfl, .inr (.inr rfl)⟩
        · split
          · exact ⟨rfl, .inr (.inl rfl)⟩
          · rename_i h1 h2 h3 h4
            rw [if_neg h1, if_neg h2, if_neg h3, if_neg h4] at h
            exact absurd rfl h
theorem putB_len {P : List Ct} (h : P.length = 37) (k : Nat) (how : Int) (d : Ct) : (putB P k how d).length = 37 := by
  unfold putB
  split
  · simp [keepL_len h]
  · simp [h]
theorem putB_zero {P : List Ct} (h : P.length = 37) (k : Nat) (how : Int) (d : Ct) : (putB P k how d)[0]? = some d := by
  unfold putB
  rw [List.getElem?_set_self]
  split <;> simp [keepL_len h, h]
theorem putB_self {P : List Ct} (h : P.length = 37) {k : Nat} (hk : k < 37) (how : Int) (d : Ct) : (putB P k how d)[k]? = some d := by
  rcases Nat.eq_zero_or_pos k with rfl | h0
  · exact putB_zero h 0 how d
  · unfold putB
    rw [List.getElem?_set_ne (by omega), if_neg (by omega), List.getElem?_set_self (by omega)]
theorem putB_other {P : List Ct} (h : P.length = 37) {k j : Nat} {how : Int} {d : Ct} (hj0 : j ≠ 0) (hjk : j ≠ k) (hk : k = 0 → (how = 2 → ¬ (2 ≤ j ∧ j ≤ 10)) ∧ (how = 3 → j ≠ 1)) : (putB P k how d)[j]? = P[j]? := by
  unfold putB
  rw [List.getElem?_set_ne (by omega), List.getElem?_set_ne (by omega)]
  split
  · rename_i e
    obtain ⟨h1, h2⟩ := hk e
    unfold keepL
    split
    · rename_i e2
      have h3 := h1 e2
      rw [List.getElem?_set_ne (by omega), pushL_at h]
      congr 1
      unfold psh
      split
      · rfl
      · rw [if_neg (by omega)]
    · split
      · rename_i e3
        have h3 := h2 e3
        rw [List.getElem?_set_ne (by omega)]
      · rfl
  · rfl
theorem putB_short {P : List Ct} (h : P.length = 37) {m : Nat} (hP : ∀ (k : Nat) (c : Ct), P[k]? = some c → c.t.length ≤ m) {k : Nat} {how : Int} {d : Ct} (hd : d.t.length ≤ m) : ∀ (j : Nat) (c : Ct), (putB P k how d)[j]? = some c → c.t.length ≤ m := fun j c hc => by
  unfold putB at hc
  rcases set_at hc with ⟨_, hc⟩ | ⟨_, rfl⟩
  · rcases set_at hc with ⟨_, hc⟩ | ⟨_, rfl⟩
    · split at hc
      · unfold keepL at hc
        split at hc
        · rcases set_at hc with ⟨_, hc⟩ | ⟨_, rfl⟩
          · rw [pushL_at h] at hc; exact hP _ _ hc
          · exact hd
        · split at hc
          · rcases set_at hc with ⟨_, hc⟩ | ⟨_, rfl⟩
            · exact hP _ _ hc
            · exact hd
          · exact hP _ _ hc
      · exact hP _ _ hc
    · exact hd
  · exact hd
theorem zP_short : ∀ (k : Nat) (c : Ct), zP[k]? = some c → c.t.length ≤ 140737488351232 := fun k c h => by
  unfold zP at h
  rw [List.getElem?_replicate] at h
  split at h
  · injection h with h; rw [← h]; exact Nat.zero_le _
  · cases h
theorem putP_short {P : List Ct} (h : P.length = 37) (hP : ∀ (k : Nat) (c : Ct), P[k]? = some c → c.t.length ≤ 140737488351232) (x : Nat) (how : Int) (d : Ct) : ∀ (j : Nat) (c : Ct), (putP P x how d).1[j]? = some c → c.t.length ≤ 140737488351232 := by
  by_cases h0 : (putP P x how d).2 = 0
  · obtain ⟨k, _, _, _, _, h5, h6⟩ := putP_ok h0
    rw [h6]
    exact putB_short h hP (by omega)
  · rw [(putP_no h0).1]
    exact zP_short
theorem rdb_short {W : World} {L : List Rg} {P : List Ct} (h : Rdb W L P) (k : Nat) (c : Ct) (hc : P[k]? = some c) : c.t.length ≤ 140737488351232 := by
  have hk : k < L.length := by have := (List.getElem?_eq_some_iff.1 hc).1; rw [h.1]; rw [h.2.1] at this; exact this
  have hd := h.2.2 k _ c (List.getElem?_eq_getElem hk) hc
  rw [hd.t.len]; exact hd.n
theorem getP_of {P : List Ct} {x k : Nat} {d : Ct} (hx : rix x = some k) (h : P[k]? = some d) : getP P x = if d.s then (d, 0) else (zc, 151) := by
  unfold getP
  rw [hx]
  dsimp only
  rw [List.getD_eq_getElem?_getD, h]
  rfl
/-- what was put is found -/
theorem get_put {P : List Ct} (hP : P.length = 37) {x : Nat} {how : Int} {c : Ct} (h : (putP P x how c).2 = 0) : ∃ d, d.s = true ∧ c.t.length ≤ d.t.length ∧ d.t.length ≤ 65536 ∧ (grt x = false → d = ⟨true, c.l, c.t⟩) ∧ getP (putP P x how c).1 x = (d, 0) ∧ getP (putP P x how c).1 0 = (d, 0) := by
  obtain ⟨k, h1, h2, h3, _, h5, h6⟩ := putP_ok h
  refine ⟨putD P x k c, putD_s P x k c, putD_ge P x k c, h5, fun hg => putD_plain hg, ?_, ?_⟩
  · rw [h6, getP_of h1 (putB_self hP (rix_lt h1) how _), putD_s, if_pos rfl]
  · rw [h6, getP_of (k := 0) rfl (putB_zero hP k how _), putD_s, if_pos rfl]
/-- the names that hold a content of their own -/
def nmL : List UInt8 := [45, 49, 50, 51, 52, 53, 54, 55, 56, 57, 97, 98, 99, 100, 101, 102, 103, 104, 105, 106, 107, 108, 109, 110, 111, 112, 113, 114, 115, 116, 117, 118, 119, 120, 121, 122]
theorem nm_kind (i : Nat) (h : i < 36) : (at8 nmL i).toNat = 45 ∨ (49 ≤ (at8 nmL i).toNat ∧ (at8 nmL i).toNat ≤ 57) ∨ (97 ≤ (at8 nmL i).toNat ∧ (at8 nmL i).toNat ≤ 122) := by
  have : ∀ k : Fin 36, (at8 nmL k.val).toNat = 45 ∨ (49 ≤ (at8 nmL k.val).toNat ∧ (at8 nmL k.val).toNat ≤ 57) ∨ (97 ≤ (at8 nmL k.val).toNat ∧ (at8 nmL k.val).toNat ≤ 122) := by decide +kernel
  exact this ⟨i, h⟩
/-- the small letter of a great one -/
def smN (x : Nat) : Nat := if 65 ≤ x ∧ x ≤ 90 then x + 32 else x
/-- another name's register stays -/
theorem get_other {P : List Ct} (hP : P.length = 37) {x y : Nat} {how : Int} {c : Ct} (h : (putP P x how c).2 = 0) (hy : y = 45 ∨ (49 ≤ y ∧ y ≤ 57) ∨ (97 ≤ y ∧ y ≤ 122)) (hne : y ≠ smN x) (hpl : x = 0 ∨ x = 34 → (how = 3 → y ≠ 45) ∧ (how = 2 → ¬ (49 ≤ y ∧ y ≤ 57))) : getP (putP P x how c).1 y = getP P y := by
  obtain ⟨k, h1, h2, h3, _, h5, h6⟩ := putP_ok h
  rw [h6]
  have hyj : ∃ j, rix y = some j ∧ j ≠ 0 ∧ (j = 1 ↔ y = 45) ∧ ((2 ≤ j ∧ j ≤ 10) ↔ (49 ≤ y ∧ y ≤ 57)) ∧ (y = 45 ∨ j = 2 + (y - 49) ∧ 49 ≤ y ∧ y ≤ 57 ∨ j = 11 + (y - 97) ∧ 97 ≤ y) := by
    rcases hy with rfl | h | h
    · exact ⟨1, rfl, by decide, by decide, by decide, .inl rfl⟩
    · refine ⟨2 + (y - 49), ?_, by omega, by omega, by omega, .inr (.inl ⟨rfl, h.1, h.2⟩)⟩
      unfold rix
      rw [if_neg (by omega), if_neg (by omega), if_pos h]
    · refine ⟨11 + (y - 97), ?_, by omega, by omega, by omega, .inr (.inr ⟨rfl, h.1⟩)⟩
      unfold rix
      rw [if_neg (by omega), if_neg (by omega), if_neg (by omega), if_pos h]
  obtain ⟨j, e1, e2, e3, e4, e5⟩ := hyj
  have hxk : (k = 0 ↔ (x = 0 ∨ x = 34)) ∧ (x = 45 ∧ k = 1 ∨ (49 ≤ x ∧ x ≤ 57) ∧ k = 2 + (x - 49) ∨ (97 ≤ x ∧ x ≤ 122) ∧ k = 11 + (x - 97) ∨ (65 ≤ x ∧ x ≤ 90) ∧ k = 11 + (x - 65) ∨ (x = 0 ∨ x = 34) ∧ k = 0) := by
    unfold rix at h1
    split at h1
    · injection h1 with h1; omega
    · split at h1
      · injection h1 with h1; omega
      · split at h1
        · injection h1 with h1; omega
        · split at h1
          · injection h1 with h1; omega
          · split at h1
            · injection h1 with h1; omega
            · cases h1
  have hjk : j ≠ k := by
    unfold smN at hne
    split at hne <;> omega
  have hst := putB_other hP (d := putD P x k c) (how := how) e2 hjk (fun e => by
    have := hpl (hxk.1.1 e)
    exact ⟨fun h => by have := this.2 h; omega, fun h => by have := this.1 h; omega⟩)
  unfold getP
  rw [e1]
  dsimp only
  rw [List.getD_eq_getElem?_getD, List.getD_eq_getElem?_getD, hst]
end Go.Proofs.Ytienamngmalkaaa
