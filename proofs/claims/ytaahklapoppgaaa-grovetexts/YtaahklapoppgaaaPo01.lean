/- There and back, pure: what Redo makes of what Undo left, and the other way round. -/
import Derived.Test.YtaahklapoppgaaaPo00
namespace Go.Proofs.Ytaahklapoppgaaa
open Go.RowKit

/-- the same history but for change k's marks -/
structure Alk (A B : List Nd) (k : Nat) : Prop where
  len : A.length = B.length
  ne : ∀ j, j < B.length → j ≠ k → at' A j = at' B j
  eq : k < B.length → { at' A k with was := (at' B k).was, made := (at' B k).made } = at' B k
theorem und_red {D : List Nd} {i q : Nat} {m : List Int} {b : Int} (hr : Right D (i : Int)) (h0 : 0 < i) (hm : Bd b m) (hml : m.length = 27) (hq : EdG q D) (hb0 : 0 ≤ b) (hb : b + (q : Int) ≤ 4611686018427387904) (s1 : Wk) (hs1 : s1 = (Wk.new D (i : Int) m).up i) (s2 : Wk) (hs2 : s2 = (Wk.new s1.G s1.now s1.m).down i) :
    Right s1.G s1.now ∧ (at' s1.G s1.now.toNat).nxt = (i : Int) ∧ s2.m = m ∧ s2.E = (at' D i).ed ∧ s2.now = (i : Int) ∧ Right s2.G s2.now ∧ Alk s2.G D i ∧ inv s2.E = s1.E ∧ MOk s1.m ∧ s1.m.length = 27 := by
  have hi : i < D.length := by have := hr.sz.2; omega
  have he := hr.edb hq h0 hi
  have hk : MOk (crs m (at' D i).was (at' D i).made (inv (at' D i).ed)) := crs_mok he.inv hm (hr.hng i _ h0 (at'_some hi)).2.2.2.2.1 hb0 hb
  have hr1 : Right s1.G s1.now := by subst hs1; exact right_up (s := Wk.new D (i : Int) m) hr rfl h0 hm.mok hk
  obtain ⟨hp, hpe⟩ := hr.par_lt h0 hi
  obtain ⟨p, hpp⟩ : ∃ p, pr D i = p := ⟨_, rfl⟩
  rw [hpp] at hp hpe
  obtain ⟨K, hK⟩ : ∃ K, crs m (at' D i).was (at' D i).made (inv (at' D i).ed) = K := ⟨_, rfl⟩
  rw [hK] at hk
  have e1 : s1 = ⟨D.set i { at' D i with was := m, made := K }, (p : Int), inv (at' D i).ed, (at' D i).cur, K⟩ := by
    rw [hs1, ← hK, ← hpe]; rfl
  have hKl : K.length = 27 := by rw [← hK]; exact crs_len _ _ _ _
  have hnx : (at' D p).nxt = (i : Int) := by
    have := hr.rch i (by rw [Int.toNat_natCast, way_step hr.low h0 hi]; simp)
    rwa [hpp] at this
  clear hs1
  subst e1
  dsimp only at hs2 hr1 ⊢
  have a1 : at' (D.set i { at' D i with was := m, made := K }) i = { at' D i with was := m, made := K } := by rw [getD_set, if_pos ⟨rfl, hi⟩]
  have a2 : at' (D.set i { at' D i with was := m, made := K }) p = at' D p := by rw [getD_set, if_neg (by omega)]
  have hpr : pr (D.set i { at' D i with was := m, made := K }) i = p := by unfold pr; rw [a1]; exact hpp
  have hb1 : crs K m K (at' D i).ed = m := crs_back hml
  have e2 : s2 = ⟨((D.set i { at' D i with was := m, made := K }).set i { at' D i with was := K, made := m }).set p { at' D p with nxt := (i : Int) }, (i : Int), (at' D i).ed, fst (at' D i).ed, m⟩ := by
    rw [hs2]
    have hd : (Wk.new (D.set i { at' D i with was := m, made := K }) (p : Int) K).dn1 i = (D.set i { at' D i with was := m, made := K }).set i { at' D i with was := K, made := m } := by
      unfold Wk.dn1 Wk.new
      dsimp only
      rw [a1]
      dsimp only
      rw [hb1]
    have hd2 : at' ((D.set i { at' D i with was := m, made := K }).set i { at' D i with was := K, made := m }) p = at' D p := by rw [getD_set, if_neg (by omega), a2]
    unfold Wk.down
    rw [hd]
    unfold Wk.new
    dsimp only
    rw [hpr, hd2, a1]
    dsimp only
    rw [hb1, List.nil_append]
  have hr2 : Right s2.G s2.now := by
    rw [hs2]
    refine right_down (s := Wk.new (D.set i { at' D i with was := m, made := K }) (p : Int) K) hr1 h0 (by show i < (D.set i _).length; rw [List.length_set]; exact hi) (by show (p : Int) = ((pr (D.set i _) i : Nat) : Int); rw [hpr]) hk ?_
    have : s2.m = m := by rw [e2]
    rw [hs2] at this
    rw [this]
    exact hm.mok
  clear hs2
  subst e2
  dsimp only at hr2 ⊢
  refine ⟨hr1, by rw [Int.toNat_natCast, a2]; exact hnx, rfl, rfl, rfl, hr2, ⟨by simp, fun j hj hji => ?_, fun _ => ?_⟩, rfl, hk, hKl⟩
  · rw [getD_set]
    split
    · rename_i e
      rw [← e.1]
      show ({ at' D p with nxt := (i : Int) } : Nd) = at' D p
      rw [← hnx]
    · rw [getD_set, if_neg (by omega), getD_set, if_neg (by omega)]
  · rw [getD_set, if_neg (by omega), getD_set, if_pos ⟨rfl, by rw [List.length_set]; exact hi⟩]
theorem red_und {D : List Nd} {p k q : Nat} {m : List Int} {b : Int} (hr : Right D (p : Int)) (hx : (at' D p).nxt = (k : Int)) (h0 : k ≠ 0) (hm : Bd b m) (hml : m.length = 27) (hq : EdG q D) (hb0 : 0 ≤ b) (hb : b + (q : Int) ≤ 4611686018427387904) (s1 : Wk) (hs1 : s1 = (Wk.new D (p : Int) m).down k) (s2 : Wk) (hs2 : s2 = (Wk.new s1.G s1.now s1.m).up k) :
    k < D.length ∧ Right s1.G s1.now ∧ s1.now = (k : Int) ∧ s2.m = m ∧ s2.now = (p : Int) ∧ s2.cur = (at' D k).cur ∧ Right s2.G s2.now ∧ Alk s2.G D k ∧ MOk s1.m ∧ s1.m.length = 27 := by
  have hpl : p < D.length := by have := hr.sz.2; omega
  obtain ⟨hk, hkp⟩ : k < D.length ∧ (at' D k).par = (p : Int) := by
    rcases hr.lds p _ (at'_some hpl) with h | ⟨k', h1, n, h2, h3⟩
    · omega
    · obtain rfl : k' = k := by omega
      rw [at'_eq h2]
      exact ⟨(List.getElem?_eq_some_iff.1 h2).1, h3⟩
  have he := hr.edb hq (by omega) hk
  have hpr : pr D k = p := by unfold pr; rw [hkp]; rfl
  have hpk : p < k := by have := hr.low k (by omega) hk; omega
  have hK0 : MOk (crs m (at' D k).was (at' D k).made (at' D k).ed) := crs_mok he hm (hr.hng k _ (by omega) (at'_some hk)).2.2.2.2.1 hb0 hb
  have hr1 : Right s1.G s1.now := by subst hs1; exact right_down (s := Wk.new D (p : Int) m) hr (by omega) hk (by show (p : Int) = ((pr D k : Nat) : Int); rw [hpr]) hm.mok hK0
  obtain ⟨K, hK⟩ : ∃ K, crs m (at' D k).was (at' D k).made (at' D k).ed = K := ⟨_, rfl⟩
  rw [hK] at hK0
  have hKl : K.length = 27 := by rw [← hK]; exact crs_len _ _ _ _
  have d1 : at' (D.set k { at' D k with was := m, made := K }) p = at' D p := by rw [getD_set, if_neg (by omega)]
  have hset : ({ at' D p with nxt := (k : Int) } : Nd) = at' D p := by rw [← hx]
  have e1 : s1 = ⟨(D.set k { at' D k with was := m, made := K }).set p (at' D p), (k : Int), (at' D k).ed, fst (at' D k).ed, K⟩ := by
    rw [hs1]
    have hd : (Wk.new D (p : Int) m).dn1 k = D.set k { at' D k with was := m, made := K } := by unfold Wk.dn1 Wk.new; dsimp only; rw [hK]
    unfold Wk.down
    rw [hd]
    unfold Wk.new
    dsimp only
    rw [hpr, d1, hset, hK, List.nil_append]
  clear hs1
  subst e1
  dsimp only at hs2 hr1 ⊢
  obtain ⟨G1, hG1⟩ : ∃ G1, (D.set k { at' D k with was := m, made := K }).set p (at' D p) = G1 := ⟨_, rfl⟩
  rw [hG1] at hs2 hr1 ⊢
  have l1 : G1.length = D.length := by rw [← hG1]; simp
  have a1 : at' G1 k = { at' D k with was := m, made := K } := by rw [← hG1, getD_set, if_neg (by omega), getD_set, if_pos ⟨rfl, hk⟩]
  have a2 : ∀ j, j ≠ k → at' G1 j = at' D j := fun j hj => by
    rw [← hG1, getD_set]
    split
    · rename_i e; rw [e.1]
    · rw [getD_set, if_neg (by omega)]
  have hb1 : crs K m K (inv (at' D k).ed) = m := crs_back hml
  have e2 : s2 = ⟨G1.set k { at' D k with was := K, made := m }, (p : Int), inv (at' D k).ed, (at' D k).cur, m⟩ := by
    rw [hs2]
    unfold Wk.up Wk.new
    dsimp only
    rw [a1]
    dsimp only
    rw [hb1, hkp, List.nil_append]
  have hr2 : Right s2.G s2.now := by
    rw [hs2]
    refine right_up (s := Wk.new G1 (k : Int) K) hr1 rfl (by omega) hK0 ?_
    have : s2.m = m := by rw [e2]
    rw [hs2] at this
    rw [this]
    exact hm.mok
  clear hs2
  subst e2
  dsimp only at hr2 ⊢
  refine ⟨hk, hr1, rfl, rfl, rfl, rfl, hr2, ⟨by rw [List.length_set, l1], fun j hj hjk => ?_, fun _ => ?_⟩, hK0, hKl⟩
  · rw [getD_set, if_neg (by omega)]
    exact a2 j hjk
  · rw [getD_set, if_pos ⟨rfl, by omega⟩]
end Go.Proofs.Ytaahklapoppgaaa
