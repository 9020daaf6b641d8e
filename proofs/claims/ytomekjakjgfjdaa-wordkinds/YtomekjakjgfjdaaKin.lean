/- Bytes of the same kinds change no target, plain. -/
import Derived.Test.YtomekjakjgfjdaaRef
import Derived.Test.YtomekjakjgfjdaaMv
namespace Go.Proofs.Ytomekjakjgfjdaa

/-- the same kinds, byte by byte -/
structure Kin (u l : List UInt8) (big : Bool) : Prop where
  len : u.length = l.length
  kd : ∀ j, j < l.length → kd ((at8 u j).toNat : Int) big = kd ((at8 l j).toNat : Int) big
theorem Kin.refl (l : List UInt8) (big : Bool) : Kin l l big := ⟨rfl, fun _ _ => rfl⟩
theorem Kin.ka {u l : List UInt8} {big : Bool} (h : Kin u l big) (i : Int) : ka u i big = ka l i big := by
  unfold Ytomekjakjgfjdaa.ka
  rw [h.len]
  split
  · rename_i hi
    exact h.kd i.toNat (by omega)
  · rfl
theorem Kin.le {u l : List UInt8} {big : Bool} (h : Kin u l big) (j : Nat) (hj : j < l.length) : le (at8 u j) = le (at8 l j) := by
  have h1 := h.kd j hj
  have a := kd_three ((at8 u j).toNat : Int) big
  have b := kd_three ((at8 l j).toNat : Int) big
  unfold Ytomekjakjgfjdaa.le
  rw [Bool.eq_iff_iff]
  simp only [beq_iff_eq]
  rw [← a, ← b, h1]
theorem Kin.el {u l : List UInt8} {big : Bool} (h : Kin u l big) (p : Nat) (hp : p ≤ l.length) : el u p = el l p := by
  rw [el_eq (by rw [h.len]; exact hp), el_eq hp, h.len]
  congr 1
  · rcases Nat.eq_zero_or_pos p with h0 | h0
    · subst h0; simp
    · rw [h.le (p - 1) (by omega)]
  · by_cases hpl : p = l.length
    · simp [hpl]
    · rw [h.le p (by omega)]
theorem Kin.bgn {u l : List UInt8} {big : Bool} (h : Kin u l big) (p : Nat) (hp : p ≤ l.length) : bgn u big p = bgn l big p := by
  unfold Ytomekjakjgfjdaa.bgn
  rw [h.ka, h.ka, h.el p hp]
theorem Kin.ndg {u l : List UInt8} {big : Bool} (h : Kin u l big) (p : Nat) : ndg u big p = ndg l big p := by
  unfold Ytomekjakjgfjdaa.ndg
  rw [h.ka, h.ka]
theorem Kin.hlt {u l : List UInt8} {big : Bool} (h : Kin u l big) (p : Nat) (hp : p ≤ l.length) : hlt u big p = hlt l big p := by
  unfold Ytomekjakjgfjdaa.hlt
  rw [h.ndg, h.el p hp]
theorem Kin.tgt {u l : List UInt8} {k : Nat} (hk : k ≤ 8) (h : Kin u l (mB k)) (p m : Nat) (hp : p ≤ l.length) : tgt u p m k = tgt l p m k := by
  have hl := h.len
  revert h
  refine kn_cases (P := fun k => Kin u l (mB k) → Ytomekjakjgfjdaa.tgt u p m k = Ytomekjakjgfjdaa.tgt l p m k) k hk ?_ ?_ ?_ ?_ ?_ ?_ ?_ ?_ ?_
  · exact fun _ => rfl
  · exact fun h => by unfold Ytomekjakjgfjdaa.tgt; rw [hl]; exact sup_congr (L := l.length) (fun q hq => h.bgn q hq) _ m p p (by omega)
  · exact fun h => by unfold Ytomekjakjgfjdaa.tgt; rw [hl]; exact sup_congr (L := l.length) (fun q hq => h.bgn q hq) _ m p p (by omega)
  · exact fun h => by unfold Ytomekjakjgfjdaa.tgt; exact sdn_congr (L := l.length) (fun q hq => h.bgn q hq) p m p hp
  · exact fun h => by unfold Ytomekjakjgfjdaa.tgt; exact sdn_congr (L := l.length) (fun q hq => h.bgn q hq) p m p hp
  · exact fun h => by unfold Ytomekjakjgfjdaa.tgt; rw [hl]; exact sup_congr (L := l.length) (fun q _ => h.ndg q) _ m p p (by omega)
  · exact fun h => by unfold Ytomekjakjgfjdaa.tgt; rw [hl]; exact sup_congr (L := l.length) (fun q _ => h.ndg q) _ m p p (by omega)
  · exact fun h => by unfold Ytomekjakjgfjdaa.tgt; exact sdn_congr (L := l.length) (fun q hq => h.hlt q hq) p m p hp
  · exact fun h => by unfold Ytomekjakjgfjdaa.tgt; exact sdn_congr (L := l.length) (fun q hq => h.hlt q hq) p m p hp
/-- P8.5 -/
theorem Kin.mv {u l : List UInt8} {s : ByteArray} (h : Kin u l (mB (kn s))) (i cnt : Int) : mv u i cnt s = mv l i cnt s := by
  have ho : okB u i cnt s = okB l i cnt s := by unfold okB plB; rw [h.len]
  unfold Ytomekjakjgfjdaa.mv
  rw [ho]
  cases hb : okB l i cnt s with
  | false => rfl
  | true =>
    unfold okB at hb
    simp only [Bool.and_eq_true, decide_eq_true_eq] at hb
    obtain ⟨p, rfl, hp⟩ := pl_yes hb.1.1.1
    rw [if_pos rfl, if_pos rfl, Int.toNat_natCast, h.tgt (kn_le s) p _ hp]
/-- one byte for another of the same kind -/
theorem Kin.set {u l : List UInt8} {big : Bool} {j : Nat} {b : UInt8} (h : Kin u l big) (hj : j < l.length) (hb : Ytomekjakjgfjdaa.kd (b.toNat : Int) big = Ytomekjakjgfjdaa.kd ((at8 u j).toNat : Int) big) : Kin (u.set j b) l big := by
  refine ⟨by simp [h.len], fun t ht => ?_⟩
  by_cases e : j = t
  · subst e
    have : at8 (u.set j b) j = b := by simp [at8, h.len, hj]
    rw [this, hb, h.kd j hj]
  · have : at8 (u.set j b) t = at8 u t := by simp [at8, e]
    rw [this, h.kd t ht]
end Go.Proofs.Ytomekjakjgfjdaa
