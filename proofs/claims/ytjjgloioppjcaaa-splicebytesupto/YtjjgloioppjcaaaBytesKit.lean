/- The walk of quoinlaw03.SpliceBytes, where it comes to the bytes. -/
import Derived.Test.YtjjgloioppjcaaaBytesOut
namespace Go.Proofs.Ytjjgloioppjcaaa
open Go.RowKit

/-- x lies in no block of y's -/
def Apt (x y : Value) : Prop := x.ownBlock = none ∨ x.ownBlock ≠ y.ownBlock
theorem apt_old {w w' : World} {base e s n e' s' n' : Nat} {x y : Value} {xs ys : List Value} (h : w.ownsRow base e s x n xs) (k : w'.ownsRow w.heap.size e' s' y n' ys) : Apt x y := by
  cases hx : x.ownBlock with
  | none => exact .inl hx
  | some g =>
    refine .inr fun e => ?_
    have h1 := (h.lt g hx).2
    have h2 := (k.lt g (by rw [← e, hx])).1
    omega
theorem apt_new {w w' : World} {base e s n e' s' n' : Nat} {x y : Value} {xs ys : List Value} (h : w.ownsRow base e s x n xs) (k : w'.ownsRow w.heap.size e' s' y n' ys) : Apt y x := by
  cases hy : y.ownBlock with
  | none => exact .inl hy
  | some g =>
    refine .inr fun e => ?_
    have h1 := (h.lt g (by rw [← e, hy])).2
    have h2 := (k.lt g hy).1
    omega
/-- the facts on the bytes -/
structure Facts (L : List Sp) (n m : Nat) (M : List (Int × Int)) : Prop where
  hM : bytW L = M
  len : M.length ≤ 5000
  nm : n ≤ m
  ml : m ≤ M.length
  bP : byt (packA L) = M
  bA : byt (cut1 L n) = M.take n
  bB : byt (cut2 L n) = M.drop n
  bC : byt (delL L n m) = M.take n ++ M.drop m
  bD : byt (slcL L n m) = (M.take m).drop n
theorem facts {L : List Sp} {a b : Int} (hz : L.length ≤ 1048576) (hS : okS L) (h0 : rfs L a a = 0) (h1 : rfs L a b = 0) : ∃ n m : Nat, a = n ∧ b = m ∧ Facts L n m (bytW L) := by
  obtain ⟨k1, k2, k3, k4⟩ := rfs_range (by omega) h1
  obtain ⟨n, rfl⟩ := Int.eq_ofNat_of_zero_le k2
  obtain ⟨m, rfl⟩ := Int.eq_ofNat_of_zero_le (by omega : 0 ≤ b)
  have e := bytW_eq k1
  have hl := okS_bytes hS
  refine ⟨n, m, rfl, rfl, rfl, hl, by omega, by rw [e]; omega, ?_, ?_, ?_, ?_, ?_⟩
  · rw [packA, if_pos k1, byt_packL k1, e]
  · rw [spell_cut1 (by omega) h0, e]; rfl
  · rw [spell_cut2 (by omega) h0, e]; rfl
  · rw [spell_del (by omega) h1, e]; rfl
  · rw [spell_slc (by omega) h1, e]; rfl
theorem own_some {w : World} {base e s n : Nat} {v : Value} {xs : List Value} (h : w.ownsRow base e s v n xs) (hn : 0 < n) : ∃ g cap, v = .slice (some ⟨g, 0, none⟩) n cap ∧ n ≤ cap ∧ cap ≤ maxLen := by
  rcases h.2 with ⟨_, h0⟩ | ⟨g, cap, cur, rfl, _, _, h1, h2, _⟩
  · omega
  · exact ⟨g, cap, rfl, h1, h2⟩
theorem own_rowp {w : World} {base e g cap : Nat} {M : List (Int × Int)} (h : w.ownsRow base e 2 (.slice (some ⟨g, 0, none⟩) M.length cap) M.length (pcells M)) : RowP w g 0 M := by
  rcases own_rdp h with ⟨ao, k, c, e1, _, _, h4⟩
  injection e1 with e1 _ _
  rcases h4 with h4 | ⟨b, off, e2, h5⟩
  · intro j q hj; rw [h4] at hj; simp at hj
  · rw [← e1] at e2
    injection e2 with e2
    injection e2 with e3 e4
    subst e3 e4
    exact h5
theorem RowP.part {w : World} {g : Nat} {M : List (Int × Int)} (h : RowP w g 0 M) (n m : Nat) : RowP w g (n * 2) ((M.take m).drop n) := by
  intro j q hj
  rw [List.getElem?_drop, List.getElem?_take] at hj
  split at hj
  · have := h (n + j) q hj
    rw [Nat.zero_add, Nat.add_mul] at this
    exact this
  · cases hj
theorem slice_rdp {w : World} {base e g cap n m : Nat} {M : List (Int × Int)} (h : w.ownsRow base e 2 (.slice (some ⟨g, 0, none⟩) M.length cap) M.length (pcells M)) (hnm : n ≤ m) (hm : m ≤ M.length) (hc : M.length ≤ cap) :
    Rdp w (.slice (if cap = n then some ⟨g, 0, none⟩ else some ⟨g, n * 2, none⟩) (m - n) (cap - n)) ((M.take m).drop n) := by
  refine ⟨_, _, _, rfl, by rw [List.length_drop, List.length_take]; omega, by omega, ?_⟩
  by_cases e : cap = n
  · refine .inl (List.eq_nil_of_length_eq_zero ?_)
    rw [List.length_drop, List.length_take]; omega
  · rw [if_neg e]
    exact .inr ⟨g, n * 2, rfl, (own_rowp h).part n m⟩
theorem rowp_src {w : World} {g off : Nat} {M : List (Int × Int)} (h : RowP w g off M) (j : Nat) (t : Value) (hj : (pcells M)[j]? = some t) : w.cell? ((⟨g, off, none⟩ : Addr).add j) = some t := by
  have hlt := (List.getElem?_eq_some_iff.1 hj).1
  rw [pcells_length] at hlt
  have hadd : (⟨g, off, none⟩ : Addr).add j = ⟨g, off + j, none⟩ := by unfold Addr.add; split <;> simp_all
  rw [hadd]
  have hk : j / 2 < M.length := by omega
  have hq : M[j / 2]? = some M[j / 2] := List.getElem?_eq_getElem hk
  obtain ⟨h0, h1⟩ := h (j / 2) _ hq
  rcases Nat.mod_two_eq_zero_or_one j with e | e
  · have e2 : j = j / 2 * 2 + 0 := by omega
    have := pcells_at hq 0 (by omega)
    rw [← e2, hj] at this
    simp [pcs] at this
    rw [this, ← h0]; congr 2; omega
  · have e2 : j = j / 2 * 2 + 1 := by omega
    have := pcells_at hq 1 (by omega)
    rw [← e2, hj] at this
    simp [pcs] at this
    rw [this, ← h1]; congr 2; omega
theorem slice_src {w : World} {base e g cap m : Nat} {M : List (Int × Int)} (h : w.ownsRow base e 2 (.slice (some ⟨g, 0, none⟩) M.length cap) M.length (pcells M)) (hm : m ≤ M.length) (hc : M.length ≤ cap) :
    Src w (.slice (if cap = m then some ⟨g, 0, none⟩ else some ⟨g, m * 2, none⟩) (M.length - m) (cap - m)) (M.drop m) := by
  by_cases e : cap = m
  · refine .inr ⟨⟨g, 0, none⟩, cap - m, by rw [if_pos e, List.length_drop], fun j t hj => ?_⟩
    have e0 : M.drop m = [] := List.drop_eq_nil_of_le (by omega)
    rw [e0] at hj; simp [pcells] at hj
  · refine .inr ⟨⟨g, m * 2, none⟩, cap - m, by rw [if_neg e, List.length_drop], fun j t hj => ?_⟩
    have := (own_rowp h).part m M.length
    rw [List.take_length] at this
    exact rowp_src this j t hj
theorem head_src {w : World} {base e g cap n : Nat} {M : List (Int × Int)} (h : w.ownsRow base e 2 (.slice (some ⟨g, 0, none⟩) M.length cap) M.length (pcells M)) (hn : n ≤ M.length) :
    Src w (.slice (some ⟨g, 0, none⟩) n cap) (M.take n) := by
  refine .inr ⟨⟨g, 0, none⟩, cap, by rw [List.length_take, Nat.min_eq_left hn], fun j t hj => ?_⟩
  have := (own_rowp h).part 0 n
  rw [List.drop_zero, Nat.zero_mul] at this
  exact rowp_src this j t hj
theorem apt_fresh {w : World} {base e s n : Nat} {x : Value} {xs : List Value} (h : w.ownsRow base e s x n xs) (off k c : Nat) : Apt x (.slice (some ⟨w.heap.size, off, none⟩) k c) := by
  cases hx : x.ownBlock with
  | none => exact .inl hx
  | some g =>
    refine .inr fun e => ?_
    have h1 := (h.lt g hx).2
    rw [hx] at e
    simp [Value.ownBlock] at e
    omega
theorem slice_rdpA {w : World} {base e g cap n m : Nat} {M : List (Int × Int)} {A : Addr} (hA : (if cap = n then some (⟨g, 0, none⟩ : Addr) else some ⟨g, n * 2, none⟩) = some A) (h : w.ownsRow base e 2 (.slice (some ⟨g, 0, none⟩) M.length cap) M.length (pcells M)) (hnm : n ≤ m) (hm : m ≤ M.length) (hc : M.length ≤ cap) :
    Rdp w (.slice (some A) (m - n) (cap - n)) ((M.take m).drop n) := by rw [← hA]; exact slice_rdp h hnm hm hc
theorem slice_srcA {w : World} {base e g cap m : Nat} {M : List (Int × Int)} {A : Addr} (hA : (if cap = m then some (⟨g, 0, none⟩ : Addr) else some ⟨g, m * 2, none⟩) = some A) (h : w.ownsRow base e 2 (.slice (some ⟨g, 0, none⟩) M.length cap) M.length (pcells M)) (hm : m ≤ M.length) (hc : M.length ≤ cap) :
    Src w (.slice (some A) (M.length - m) (cap - m)) (M.drop m) := by rw [← hA]; exact slice_src h hm hc
theorem if_some (p : Prop) [Decidable p] (a b : Addr) : ∃ A, (if p then some a else some b) = some A := by
  by_cases h : p
  · exact ⟨a, if_pos h⟩
  · exact ⟨b, if_neg h⟩
end Go.Proofs.Ytjjgloioppjcaaa
