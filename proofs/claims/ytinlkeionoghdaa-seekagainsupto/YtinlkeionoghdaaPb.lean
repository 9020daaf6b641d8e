/- There and back, and counts in parts, of what a look finds; no program. -/
import Derived.Test.YtinlkeionoghdaaFa
namespace Go.Proofs.Ytinlkeionoghdaa
open Go.RowKit

theorem bdr (w : World) (n : Nat) : Below w.heap.size w (w.drewN n) := ⟨rfl, rfl, rfl, Nat.le_refl _, fun _ _ => rfl⟩
theorem bg_step (l : List UInt8) (p : Nat) : ∀ j, (∀ r, p ≤ r → r < p + j → le (at8 l r) = false) → bg l (p + j) = bg l p
  | 0, _ => rfl
  | j + 1, h => by
    have e := h (p + j) (by omega) (by omega)
    show bg l (p + j + 1) = bg l p
    conv => lhs; unfold bg
    rw [if_neg (by rw [e]; simp)]
    exact bg_step l p j (fun r h1 h2 => h r h1 (by omega))
/-- a place of the line has its beginning -/
theorem bg_same {l : List UInt8} {p q : Nat} (h1 : p ≤ q) (h2 : q ≤ en l (bg l p)) : bg l q = bg l p := by
  have := bg_step l p (q - p) (fun r k1 k2 => en_none (s := bg l p) (by have := bg_le l p; omega) (by omega))
  rwa [show p + (q - p) = q from by omega] at this
/-- a place of the line is of its number -/
theorem nl_same {l : List UInt8} {p r : Nat} (hp : p ≤ l.length) (h1 : bg l p ≤ r) (h2 : r ≤ en l (bg l p)) : nl (l.take r) = nl (l.take p) := by
  have hb := bg_le l p
  have e1 := nl_flat (t := l) (s := bg l p) (r - bg l p) (by omega) (by omega)
  have e2 := nl_flat (t := l) (s := bg l p) (p - bg l p) (by have := place_en hp; omega) (by omega)
  rw [show bg l p + (r - bg l p) = r from by omega] at e1
  rw [show bg l p + (p - bg l p) = p from by omega] at e2
  rw [e1, e2]

theorem hu_drop {S : Nat → Bool} : ∀ {f p j q : Nat}, (hu S f p)[j]? = some q → hu S (p + f - (q + 1)) (q + 1) = (hu S f p).drop (j + 1)
  | 0, p, j, q, h => by simp [hu] at h
  | f + 1, p, j, q, h => by
    cases hs : S p with
    | true =>
      rw [hu_yes hs] at h ⊢
      cases j with
      | zero =>
        obtain rfl : p = q := by simpa using h
        rw [show p + (f + 1) - (p + 1) = f from by omega]; rfl
      | succ j =>
        have := hu_drop (S := S) (f := f) (p := p + 1) (j := j) (q := q) (by simpa using h)
        rw [show p + (f + 1) = p + 1 + f from by omega, this]; rfl
    | false =>
      rw [hu_no hs] at h ⊢
      have := hu_drop h
      rw [show p + (f + 1) = p + 1 + f from by omega, this]
theorem hu_snoc (S : Nat → Bool) : ∀ f p, hu S (f + 1) p = hu S f p ++ (if S (p + f) = true then [p + f] else [])
  | 0, p => by
    unfold hu; simp only [Nat.add_zero]
    rfl
  | f + 1, p => by
    cases hs : S p with
    | true => rw [hu_yes hs, hu_yes hs, hu_snoc S f (p + 1), show p + 1 + f = p + (f + 1) from by omega]; rfl
    | false => rw [hu_no hs, hu_no hs, hu_snoc S f (p + 1), show p + 1 + f = p + (f + 1) from by omega]
theorem hu_more {S : Nat → Bool} {f p : Nat} (h : S (p + f) = true) : (hu S (f + 1) p).length = (hu S f p).length + 1 := by rw [hu_snoc, if_pos h]; simp
theorem hu_less {S : Nat → Bool} {f p : Nat} (h : S (p + f) = false) : (hu S (f + 1) p).length = (hu S f p).length := by rw [hu_snoc, if_neg (by rw [h]; simp)]; simp
/-- as many hits stand ahead of the one number j -/
theorem hu_nth {S : Nat → Bool} : ∀ {f p j q : Nat}, (hu S f p)[j]? = some q → (hu S (q - p) p).length = j
  | 0, p, j, q, h => by simp [hu] at h
  | f + 1, p, j, q, h => by
    have hm := hu_mem S _ _ _ (List.mem_of_getElem? h)
    cases hs : S p with
    | true =>
      rw [hu_yes hs] at h
      cases j with
      | zero =>
        obtain rfl : p = q := by simpa using h
        rw [Nat.sub_self]; rfl
      | succ j =>
        have h' : (hu S f (p + 1))[j]? = some q := by simpa using h
        have hm' := hu_mem S _ _ _ (List.mem_of_getElem? h')
        rw [show q - p = (q - (p + 1)) + 1 from by omega, hu_yes hs, List.length_cons, hu_nth h']
    | false =>
      rw [hu_no hs] at h
      have hm' := hu_mem S _ _ _ (List.mem_of_getElem? h)
      rw [show q - p = (q - (p + 1)) + 1 from by omega, hu_no hs, hu_nth h]
theorem hd_snoc (S : Nat → Bool) : ∀ f p, f < p → hd S (f + 1) p = hd S f p ++ (if S (p - f - 1) = true then [p - f - 1] else [])
  | 0, p, h => by
    obtain ⟨p, rfl⟩ : ∃ k, p = k + 1 := ⟨p - 1, by omega⟩
    cases hs : S p with
    | true => rw [hd_yes hs]; simp [hd, hs]
    | false => rw [hd_no hs]; simp [hd, hs]
  | f + 1, p, h => by
    obtain ⟨p, rfl⟩ : ∃ k, p = k + 1 := ⟨p - 1, by omega⟩
    have e : p + 1 - (f + 1) - 1 = p - f - 1 := by omega
    cases hs : S p with
    | true => rw [hd_yes hs, hd_yes hs, hd_snoc S f p (by omega), e]; rfl
    | false => rw [hd_no hs, hd_no hs, hd_snoc S f p (by omega), e]
theorem hd_more {S : Nat → Bool} {f p : Nat} (hp : f < p) (h : S (p - f - 1) = true) : (hd S (f + 1) p).length = (hd S f p).length + 1 := by rw [hd_snoc S f p hp, if_pos h]; simp
theorem hd_less {S : Nat → Bool} {f p : Nat} (hp : f < p) (h : S (p - f - 1) = false) : (hd S (f + 1) p).length = (hd S f p).length := by rw [hd_snoc S f p hp, if_neg (by rw [h]; simp)]; simp
theorem hd_nth {S : Nat → Bool} : ∀ {f p j q : Nat}, f ≤ p → (hd S f p)[j]? = some q → (hd S (p - (q + 1)) p).length = j
  | 0, p, j, q, _, h => by simp [hd] at h
  | f + 1, p, j, q, hf, h => by
    obtain ⟨p, rfl⟩ : ∃ k, p = k + 1 := ⟨p - 1, by omega⟩
    cases hs : S p with
    | true =>
      rw [hd_yes hs] at h
      cases j with
      | zero =>
        obtain rfl : p = q := by simpa using h
        rw [Nat.sub_self]; rfl
      | succ j =>
        have h' : (hd S f p)[j]? = some q := by simpa using h
        have hm' := hd_mem S _ _ _ (by omega) (List.mem_of_getElem? h')
        rw [show p + 1 - (q + 1) = (p - (q + 1)) + 1 from by omega, hd_yes hs, List.length_cons, hd_nth (by omega) h']
    | false =>
      rw [hd_no hs] at h
      have hm' := hd_mem S _ _ _ (by omega) (List.mem_of_getElem? h)
      rw [show p + 1 - (q + 1) = (p - (q + 1)) + 1 from by omega, hd_no hs, hd_nth (by omega) h]
/-- below and above the same hits stand -/
theorem hd_hu (S : Nat → Bool) (p : Nat) : ∀ f, (hd S f (p + f)).length = (hu S f p).length
  | 0 => rfl
  | f + 1 => by
    have ih := hd_hu S p f
    cases hs : S (p + f) with
    | true => rw [hu_more hs, show p + (f + 1) = p + f + 1 from rfl, hd_yes hs, List.length_cons, ih]
    | false => rw [hu_less hs, show p + (f + 1) = p + f + 1 from rfl, hd_no hs, ih]
theorem hd_append (S : Nat → Bool) : ∀ (f g p : Nat), f ≤ p → hd S (f + g) p = hd S f p ++ hd S g (p - f)
  | 0, g, p, _ => by rw [Nat.zero_add]; rfl
  | f + 1, g, p, h => by
    obtain ⟨p, rfl⟩ : ∃ k, p = k + 1 := ⟨p - 1, by omega⟩
    have ih := hd_append S f g p (by omega)
    rw [show f + 1 + g = (f + g) + 1 from by omega, show p + 1 - (f + 1) = p - f from by omega]
    cases hs : S p with
    | true => rw [hd_yes hs, hd_yes hs, ih]; rfl
    | false => rw [hd_no hs, hd_no hs, ih]
theorem hd_back {S : Nat → Bool} {f p j q B : Nat} (h : (hu S f (p + 1))[j]? = some q) (hs : S p = true) (hB : B ≤ p) : (hd S (q - B) q)[j]? = some p := by
  have hm := hu_mem S _ _ _ (List.mem_of_getElem? h)
  have e1 := hu_nth h
  have e2 := hd_hu S (p + 1) (q - (p + 1))
  rw [show p + 1 + (q - (p + 1)) = q from by omega, e1] at e2
  rw [show q - B = (q - (p + 1)) + ((p - B) + 1) from by omega, hd_append S _ _ _ (by omega), show q - (q - (p + 1)) = p + 1 from by omega, hd_yes hs]
  rw [List.getElem?_append_right (by omega), e2, Nat.sub_self]
  rfl

/-- what SeekBack asks -/
theorem back_there {l : List UInt8} {b : Int} {p q : Nat} {c : Int} (hc : 1 ≤ c ∧ c ≤ 4999) (hp : p ≤ l.length) (hh : hit l b p (max c 1).toNat 0 1 = some q) (hs : isb l b p = true) : mv l (q : Int) c 70 b = ⟨q, p, 1, 0⟩ := by
  have hu1 := hit_up (.inl rfl) hh
  have hE : en l (bg l p) ≤ l.length := en_le (by have := bg_le l p; omega)
  have hok : okB l (q : Int) c = true := by
    unfold okB plB
    rw [decide_eq_true (by omega), decide_eq_true (by omega), decide_eq_true (by omega)]; rfl
  have hbq : bg l q = bg l p := bg_same (by omega) (by omega)
  have h2 : hit l b q (max c 1).toNat 0 3 = some p := by
    show (hd (isb l b) (q - 0 - bg l q) (q - 0))[(max c 1).toNat - 1]? = some p
    rw [hbq, Nat.sub_zero]
    exact hd_back (show (hu (isb l b) (en l (bg l p) - (p + 1 + 0)) (p + 1))[(max c 1).toNat - 1]? = some q from hh) hs (bg_le l p)
  unfold mv
  rw [hok, if_pos rfl, if_neg (by decide), Int.toNat_natCast]
  show res q 3 (hit l b q (max c 1).toNat 0 3) = _
  rw [h2]
  simp [res, tov, wy, sh, kd]
theorem mv_at {l : List UInt8} {b : Int} {p : Nat} {c : Int} (hc : 0 ≤ c ∧ c ≤ 9999) (hp : p ≤ l.length) : mv l (p : Int) c 102 b = res p 1 (hit l b p (max c 1).toNat 0 1) := by
  have hok : okB l (p : Int) c = true := by
    unfold okB plB
    rw [decide_eq_true (by omega), decide_eq_true (by omega), decide_eq_true (by omega)]; rfl
  unfold mv
  rw [hok, if_pos rfl, if_neg (by decide), Int.toNat_natCast]
  rfl
theorem back_parts {l : List UInt8} {b : Int} {p q : Nat} {c d : Int} (hc : 1 ≤ c ∧ c ≤ 4999) (hd : 1 ≤ d ∧ d ≤ 4999) (hp : p ≤ l.length) (hh : hit l b p (max c 1).toNat 0 1 = some q) :
    ∃ x y z e k k' : Int, mv l (q : Int) d 102 b = ⟨x, z, k, e⟩ ∧ mv l (p : Int) (c + d) 102 b = ⟨y, z, k', e⟩ := by
  have hu1 := hit_up (.inl rfl) hh
  have hE : en l (bg l p) ≤ l.length := en_le (by have := bg_le l p; omega)
  have hbq : bg l q = bg l p := bg_same (by omega) (by omega)
  have hs : (hu (isb l b) (en l (bg l p) - (p + 1 + 0)) (p + 1))[(max c 1).toNat - 1]? = some q := hh
  have e1 := hu_drop hs
  rw [show p + 1 + (en l (bg l p) - (p + 1 + 0)) - (q + 1) = en l (bg l p) - (q + 1 + 0) from by omega] at e1
  have e2 : hit l b q (max d 1).toNat 0 1 = hit l b p (max (c + d) 1).toNat 0 1 := by
    show (hu (isb l b) (en l (bg l q) - (q + 1 + 0)) (q + 1))[(max d 1).toNat - 1]? = (hu (isb l b) (en l (bg l p) - (p + 1 + 0)) (p + 1))[(max (c + d) 1).toNat - 1]?
    rw [hbq, e1, List.getElem?_drop]
    congr 1
    omega
  rw [mv_at (by omega) (by omega), mv_at (by omega) hp, e2]
  cases hit l b p (max (c + d) 1).toNat 0 1 with
  | none => exact ⟨0, 0, 0, 70, 0, 0, rfl, rfl⟩
  | some r => exact ⟨q, p, tov 1 r, 0, kd 1, kd 1, rfl, rfl⟩
/-- the first answer -/
theorem back_first (l : List UInt8) (i c b : Int) : (∃ z : Int, (z = 2 ∨ z = 70) ∧ mv l i c 102 b = ⟨0, 0, 0, z⟩) ∨ ∃ p q : Nat, i = p ∧ p ≤ l.length ∧ q ≤ l.length ∧ hit l b p (max c 1).toNat 0 1 = some q ∧ mv l i c 102 b = ⟨p, q, 2, 0⟩ := by
  rcases mv_cases l i c 102 b with h | ⟨p, q, rfl, hp, h0, h1, hk, hh, e⟩
  · exact .inl h
  · have hE : en l (bg l p) ≤ l.length := en_le (by have := bg_le l p; omega)
    have hh' : hit l b p (max c 1).toNat 0 1 = some q := hh
    have := hit_up (.inl rfl) hh'
    exact .inr ⟨p, q, rfl, hp, by omega, hh', by rw [e]; simp [kq, tov, wy, sh, kd]⟩
end Go.Proofs.Ytinlkeionoghdaa
