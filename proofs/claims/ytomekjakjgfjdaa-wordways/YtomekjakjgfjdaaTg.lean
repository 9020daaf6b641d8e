/- Targets, plain: counts add up, which way, there and back, kinds alone. -/
import Derived.Test.YtomekjakjgfjdaaMv
namespace Go.Proofs.Ytomekjakjgfjdaa

theorem ways_len (S : Nat → Bool) (L : Nat) : Ways S (fun _ => L) L :=
  ⟨fun d h => ⟨h, Nat.le_refl _⟩, fun d _ _ n => by
    show sup S (fun _ => L) (L - L) n L L = L
    rw [Nat.sub_self]
    rcases Nat.eq_zero_or_pos n with h | h
    · subst h; exact sup_zero _ _ _ _ _
    · exact sup_end _ _ h⟩
theorem ways_self (S : Nat → Bool) (L : Nat) : Ways S (fun d => d) L :=
  ⟨fun d h => ⟨Nat.le_refl _, h⟩, fun d hd hs n => by
    show sup S (fun d => d) (L - d) n d d = d
    rcases Nat.eq_zero_or_pos n with h | h
    · subst h; exact sup_zero _ _ _ _ _
    · rw [sup_skip h (L - d) d (by omega) (fun q h1 h2 => hs q h1 (by omega)), show d + (L - d) = L from by omega, Nat.sub_self, sup_end _ _ h]⟩

theorem up_add {S : Nat → Bool} {fw : Nat → Nat} {L p : Nat} (hw : Ways S fw L) (hp : p ≤ L) (m n : Nat) : sup S fw (L - p) (m + n) p p = sup S fw (L - sup S fw (L - p) m p p) n (sup S fw (L - p) m p p) (sup S fw (L - p) m p p) :=
  sup_add hw n (L - p) m p p (by omega) (Nat.le_refl _) (fun q h1 h2 => by omega)
theorem dn_add {S : Nat → Bool} {p : Nat} (m n : Nat) : sdn S (fun _ => 0) p (m + n) p = sdn S (fun _ => 0) (sdn S (fun _ => 0) p m p) n (sdn S (fun _ => 0) p m p) :=
  sdn_add p m p (Nat.le_refl _) (fun q h1 h2 => by omega)

theorem tgt_add {l : List UInt8} {p : Nat} (m n k : Nat) (hp : p ≤ l.length) : tgt l p (m + n) k = tgt l (tgt l p m k) n k := by
  unfold tgt
  split
  · exact up_add (ways_len _ _) hp m n
  · exact up_add (ways_len _ _) hp m n
  · exact dn_add m n
  · exact dn_add m n
  · exact up_add (ways_self _ _) hp m n
  · exact up_add (ways_self _ _) hp m n
  · exact dn_add m n
  · exact dn_add m n
  · split <;> simp_all
theorem dn_stuck {S : Nat → Bool} {p m : Nat} (hm : 0 < m) (h : sdn S (fun _ => 0) p m p = p) (n : Nat) : sdn S (fun _ => 0) p n p = p := by
  rcases Nat.eq_zero_or_pos p with h0 | h0
  · subst h0
    have := sdn_le (S := S) (fw := fun _ => 0) (fun d => Nat.zero_le d) 0 n 0 (Nat.le_refl _)
    omega
  · have := sdn_lt (S := S) (n := m) h0 hm; omega
theorem tgt_stuck {l : List UInt8} {p m k : Nat} (hp : p ≤ l.length) (hm : 0 < m) (h : tgt l p m k = p) (n : Nat) : tgt l p n k = p := by
  revert h
  unfold tgt
  split
  · exact fun h => sup_stuck (fun d h => ⟨h, Nat.le_refl _⟩) hp hm h n
  · exact fun h => sup_stuck (fun d h => ⟨h, Nat.le_refl _⟩) hp hm h n
  · exact fun h => dn_stuck hm h n
  · exact fun h => dn_stuck hm h n
  · exact fun h => sup_stuck (fun d h => ⟨Nat.le_refl _, h⟩) hp hm h n
  · exact fun h => sup_stuck (fun d h => ⟨Nat.le_refl _, h⟩) hp hm h n
  · exact fun h => dn_stuck hm h n
  · exact fun h => dn_stuck hm h n
  · exact fun h => h
theorem mW_up {k : Nat} (hk : k ≤ 8) (h0 : k ≠ 0) : mW k = 1 ∨ mW k = -1 := by
  revert h0
  refine kn_cases (P := fun k => k ≠ 0 → mW k = 1 ∨ mW k = -1) k hk (fun h => absurd rfl h) ?_ ?_ ?_ ?_ ?_ ?_ ?_ ?_ <;> exact fun _ => by simp [mW]
theorem tgt_up {l : List UInt8} {p m k : Nat} (hk : k ≤ 8) (hp : p ≤ l.length) (h : mW k = 1) : p ≤ tgt l p m k := by
  have up : ∀ (S : Nat → Bool) (fw : Nat → Nat), (∀ d, d ≤ l.length → d ≤ fw d ∧ fw d ≤ l.length) → p ≤ sup S fw (l.length - p) m p p := fun S fw hw => (sup_le hw _ m p p (by omega) (Nat.le_refl _)).1
  revert h
  refine kn_cases (P := fun k => mW k = 1 → p ≤ tgt l p m k) k hk ?_ ?_ ?_ ?_ ?_ ?_ ?_ ?_ ?_
  · exact fun h => by simp [mW] at h
  · exact fun _ => up _ _ (ways_len (bgn l false) _).le
  · exact fun _ => up _ _ (ways_len (bgn l true) _).le
  · exact fun h => by simp [mW] at h
  · exact fun h => by simp [mW] at h
  · exact fun _ => up _ _ (ways_self (ndg l false) _).le
  · exact fun _ => up _ _ (ways_self (ndg l true) _).le
  · exact fun h => by simp [mW] at h
  · exact fun h => by simp [mW] at h
theorem tgt_dn {l : List UInt8} {p m k : Nat} (hk : k ≤ 8) (h : mW k = -1) : tgt l p m k ≤ p := by
  have dn : ∀ (S : Nat → Bool), sdn S (fun _ => 0) p m p ≤ p := fun S => sdn_le (fun d => Nat.zero_le d) p m p (Nat.le_refl _)
  revert h
  refine kn_cases (P := fun k => mW k = -1 → tgt l p m k ≤ p) k hk ?_ ?_ ?_ ?_ ?_ ?_ ?_ ?_ ?_
  · exact fun h => by simp [mW] at h
  · exact fun h => by simp [mW] at h
  · exact fun h => by simp [mW] at h
  · exact fun _ => dn _
  · exact fun _ => dn _
  · exact fun h => by simp [mW] at h
  · exact fun h => by simp [mW] at h
  · exact fun _ => dn _
  · exact fun _ => dn _

theorem mv_bad {l : List UInt8} {i cnt : Int} {s : ByteArray} (h : okB l i cnt s = false) : mv l i cnt s = ⟨0, 0, 0, 2⟩ := by
  unfold mv; rw [if_neg (by rw [h]; simp)]
theorem ok_of {l : List UInt8} {p : Nat} {cnt : Int} {s : ByteArray} (hp : p ≤ l.length) (h0 : 0 ≤ cnt) (h1 : cnt ≤ 9999) (hk : kn s ≠ 0) : okB l (p : Int) cnt s = true := by
  unfold okB plB; simp; omega
theorem mv_stay {l : List UInt8} {p : Nat} {cnt : Int} {s : ByteArray} (hp : p ≤ l.length) (h0 : 0 ≤ cnt) (h1 : cnt ≤ 9999) (hk : kn s ≠ 0) (h : tgt l p (max cnt 1).toNat (kn s) = p) : mv l (p : Int) cnt s = ⟨0, 0, 0, 70⟩ := by
  unfold mv; rw [if_pos (ok_of hp h0 h1 hk), Int.toNat_natCast, if_pos h]
theorem mv_goes {l : List UInt8} {p q : Nat} {cnt : Int} {s : ByteArray} (hp : p ≤ l.length) (h0 : 0 ≤ cnt) (h1 : cnt ≤ 9999) (hk : kn s ≠ 0) (h : tgt l p (max cnt 1).toNat (kn s) = q) (hq : q ≠ p) : mv l (p : Int) cnt s = ⟨p, q, mK (kn s), 0⟩ := by
  unfold mv; rw [if_pos (ok_of hp h0 h1 hk), Int.toNat_natCast, if_neg (by rw [h]; exact hq), h]
/-- P8.3 -/
theorem mv_ways (l : List UInt8) (i cnt : Int) (s : ByteArray) : (∃ z : Int, (z = 2 ∨ z = 70) ∧ mv l i cnt s = ⟨0, 0, 0, z⟩) ∨ ∃ p q : Nat, i = (p : Int) ∧ q ≤ l.length ∧ kn s ≠ 0 ∧ mv l i cnt s = ⟨p, q, mK (kn s), 0⟩ ∧ (mW (kn s) = 1 → p < q) ∧ (mW (kn s) = -1 → q < p) := by
  cases h : okB l i cnt s with
  | false => exact .inl ⟨2, .inl rfl, mv_bad h⟩
  | true =>
    unfold okB at h
    simp only [Bool.and_eq_true, decide_eq_true_eq] at h
    obtain ⟨⟨⟨h1, h3⟩, h4⟩, h5⟩ := h
    obtain ⟨p, rfl, hp⟩ := pl_yes h1
    by_cases hq : tgt l p (max cnt 1).toNat (kn s) = p
    · exact .inl ⟨70, .inr rfl, mv_stay hp h3 h4 h5 hq⟩
    · refine .inr ⟨p, _, rfl, tgt_le hp, h5, mv_goes hp h3 h4 h5 rfl hq, fun h => ?_, fun h => ?_⟩
      · have := tgt_up (m := (max cnt 1).toNat) (kn_le s) hp h; omega
      · have := tgt_dn (l := l) (p := p) (m := (max cnt 1).toNat) (kn_le s) h; omega
/-- P8.2 -/
theorem mv_steps (l : List UInt8) (i M C : Int) (s : ByteArray) (hM : 1 ≤ M) (hC : 1 ≤ C) (hs : M + C ≤ 9999) (hk : kn s ≠ 0) :
    (∃ z : Int, (z = 2 ∨ z = 70) ∧ mv l i M s = ⟨0, 0, 0, z⟩ ∧ mv l i (M + C) s = ⟨0, 0, 0, z⟩) ∨
    ∃ (q r : Nat) (K : Int), mv l i M s = ⟨i, q, K, 0⟩ ∧ mv l i (M + C) s = ⟨i, r, K, 0⟩ ∧ (mv l q C s = ⟨q, r, K, 0⟩ ∨ (mv l q C s = ⟨0, 0, 0, 70⟩ ∧ r = q)) := by
  cases h : plB l i with
  | false => exact .inl ⟨2, .inl rfl, mv_bad (by unfold okB; rw [h]; rfl), mv_bad (by unfold okB; rw [h]; rfl)⟩
  | true =>
    obtain ⟨p, rfl, hp⟩ := pl_yes h
    have eM : (max M 1).toNat = M.toNat := by omega
    have eC : (max C 1).toNat = C.toNat := by omega
    have eS : (max (M + C) 1).toNat = M.toNat + C.toNat := by omega
    by_cases hq : tgt l p M.toNat (kn s) = p
    · exact .inl ⟨70, .inr rfl, mv_stay hp (by omega) (by omega) hk (by rw [eM]; exact hq), mv_stay hp (by omega) (by omega) hk (by rw [eS]; exact tgt_stuck hp (by omega) hq _)⟩
    · have hadd := tgt_add M.toNat C.toNat (kn s) hp
      have hle := tgt_le (m := M.toNat) (k := kn s) hp
      have hle2 := tgt_le (m := C.toNat) (k := kn s) hle
      have hne : tgt l p (M.toNat + C.toNat) (kn s) ≠ p := by
        rw [hadd]
        rcases mW_up (kn_le s) hk with h1 | h1
        · have a := tgt_up (m := M.toNat) (kn_le s) hp h1
          have b := tgt_up (m := C.toNat) (kn_le s) hle h1
          omega
        · have a := tgt_dn (l := l) (p := p) (m := M.toNat) (kn_le s) h1
          have b := tgt_dn (l := l) (p := tgt l p M.toNat (kn s)) (m := C.toNat) (kn_le s) h1
          omega
      refine .inr ⟨_, _, mK (kn s), mv_goes hp (by omega) (by omega) hk (by rw [eM]) hq, mv_goes hp (by omega) (by omega) hk (by rw [eS]) hne, ?_⟩
      by_cases hr : tgt l (tgt l p M.toNat (kn s)) C.toNat (kn s) = tgt l p M.toNat (kn s)
      · exact .inr ⟨mv_stay hle (by omega) (by omega) hk (by rw [eC]; exact hr), by rw [hadd]; exact hr⟩
      · refine .inl (mv_goes hle (by omega) (by omega) hk (by rw [eC, hadd]) (by rw [hadd]; exact hr))
/-- P8.4: from a beginning to the next one and back -/
theorem back_w {l : List UInt8} {big : Bool} {p q : Nat} (hp : p ≤ l.length) (hS : bgn l big p = true) (h : sup (bgn l big) (fun _ => l.length) (l.length - p) 1 p p = q) (hq : q ≠ p) : sdn (bgn l big) (fun _ => 0) q 1 q = p := by
  rcases sup_first (S := bgn l big) (ways_len (bgn l big) l.length).le (l.length - p) p p (by omega) (Nat.le_refl _) with ⟨h1, h2⟩ | ⟨⟨r, h1, h2, h3, h4, h5⟩, -⟩
  · have := h2 0
    rw [h] at this
    exact sdn_one (by omega) hS (fun r k1 k2 => h1 r k1 (by omega)) q
  · have := h5 0
    rw [Nat.zero_add, h, sup_zero] at this
    subst this
    exact sdn_one h1 hS h4 q
/-- from an ending to the next one and back -/
theorem back_e {l : List UInt8} {big : Bool} {p q : Nat} (hp : p ≤ l.length) (hS : ndg l big p = true) (h : sup (ndg l big) (fun d => d) (l.length - p) 1 p p = q) (hq : q ≠ p) (hb : ∀ r, p < r → r < q → el l r = false) : sdn (hlt l big) (fun _ => 0) q 1 q = p := by
  rcases sup_first (S := ndg l big) (ways_self (ndg l big) l.length).le (l.length - p) p p (by omega) (Nat.le_refl _) with ⟨h1, h2⟩ | ⟨⟨r, h1, h2, h3, h4, h5⟩, -⟩
  · have := h2 0
    rw [h] at this
    exact absurd this hq
  · have := h5 0
    rw [Nat.zero_add, h, sup_zero] at this
    subst this
    exact sdn_one h1 (by unfold hlt; rw [hS]; rfl) (fun r k1 k2 => by unfold hlt; rw [h4 r k1 k2, hb r k1 k2]; rfl) q
end Go.Proofs.Ytomekjakjgfjdaa
