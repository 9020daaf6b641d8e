/- Lists of few bytes: what the laws' bytes tells of them. -/
import Derived.Test.YtjjgloioppjcaaaBytes
import Derived.Test.YtjjgloioppjcaaaPacked
import Derived.Maps.AppendAt
namespace Go.Proofs.Ytjjgloioppjcaaa
open Go.RowKit

theorem bytW_eq {L : List Sp} (h : okL L = true) : bytW L = byt L := by
  unfold bytW byt
  induction L with
  | nil => rfl
  | cons p L ih =>
    have h3 : rgt p = true ∧ okL L = true := by simpa [okL] using h
    rw [List.flatMap_cons, List.flatMap_cons, ih h3.2]
    congr 1
    unfold bytW1 byt1
    have hp := (rgt_iff p).1 h3.1
    apply List.map_congr_left
    intro k hk
    have hk' := List.mem_range.1 hk
    rw [wrap_in (by omega) (by omega)]
theorem okS_bytes {L : List Sp} (h : okS L) : (bytW L).length ≤ 5000 := by
  rcases snoc_cases L with rfl | ⟨A, p, rfl⟩
  · simp [bytW]
  · have hp : (A ++ [p])[A.length]? = some p := by simp
    have h1 := h A.length p hp
    have h2 := bytW_take hp
    have e1 : (A ++ [p]).take (A.length + 1) = A ++ [p] := List.take_of_length_le (by simp)
    rw [e1] at h2
    rw [h2, List.length_append, bytW1_length]
    unfold cnd at h1
    omega
theorem okS_of {L : List Sp} (h : okL L = true) (hl : (byt L).length ≤ 5000) : okS L := by
  intro j p hp
  have h1 := bytW_take hp
  have hr := (rgt_iff p).1 (okL_mem h (List.mem_of_getElem? hp))
  have h2 : (byt (L.take (j + 1))).length ≤ (byt L).length := by
    have e : L = L.take (j + 1) ++ L.drop (j + 1) := (List.take_append_drop _ _).symm
    have e2 : (byt L).length = (byt (L.take (j + 1))).length + (byt (L.drop (j + 1))).length := by
      rw [← List.length_append, ← byt_append, ← e]
    omega
  rw [bytW_eq (okL_takes h (j + 1))] at h1
  rw [h1, List.length_append, bytW1_length] at h2
  exact ⟨hr.2.2.1, by omega, by omega⟩
theorem packA_again (L : List Sp) : packA (packA L) = packA L := by
  have h := pack_ok L
  rw [packA, if_pos h.1]
  exact pk_eq _ _ (pk_packL h.1) h.2 (byt_packL h.1)

theorem bytes_yes {w : World} {v : Value} {L : List Sp} (hz : L.length ≤ 4194304) (hg : Rng L) (hS : okS L) (h1 : Rdb w v L) :
    Calls Try.prog 23 #[v] w fun e w' => ∃ u, e = .returned (.tuple #[u, .bool true]) ∧ SofarP w (bytW L) u w' := by
  refine (bytes_rdb hz hg h1).mono fun e w' h => ?_
  rcases h with ⟨_, h⟩ | ⟨h, _⟩
  · exact h
  · exact absurd hS h
theorem bytes_no {w : World} {v : Value} {L : List Sp} (hz : L.length ≤ 4194304) (hg : Rng L) (hS : ¬ okS L) (h1 : Rdb w v L) :
    Calls Try.prog 23 #[v] w fun e w' => e = .returned (.tuple #[.slice none 0 0, .bool false]) ∧ Below w.heap.size w w' := by
  refine (bytes_rdb hz hg h1).mono fun e w' h => ?_
  rcases h with ⟨h, _⟩ | ⟨_, h⟩
  · exact absurd h hS
  · exact h
/-- bytes, of a right list of few bytes -/
theorem bytes_ok {w : World} {v : Value} {L : List Sp} {M : List (Int × Int)} (hz : L.length ≤ 4194304) (hk : okL L = true) (hM : byt L = M) (hl : M.length ≤ 5000) (h1 : Rdb w v L) :
    Calls Try.prog 23 #[v] w fun e w' => ∃ u, e = .returned (.tuple #[u, .bool true]) ∧ SofarP w M u w' := by
  have h := bytes_yes hz (okL_rng hk) (okS_of hk (by rw [hM]; exact hl)) h1
  rw [bytW_eq hk, hM] at h
  exact h

/-- pairs that can be appended -/
def Src (w : World) (u : Value) (M : List (Int × Int)) : Prop := (u = .slice none 0 0 ∧ M = []) ∨ ∃ ad c, u = .slice (some ad) M.length c ∧ ∀ (j : Nat) (t : Value), (pcells M)[j]? = some t → w.cell? (ad.add j) = some t
theorem two_all (M : List (Int × Int)) : ∀ u ∈ pcells M, u.oneCell' = true := by
  intro u hu
  obtain ⟨p, _, hp⟩ := List.mem_flatMap.1 hu
  exact two2 p.1 p.2 u hp
theorem wp_append_pairs {w : World} {o : Oper} {a : Act} {K : Act → World → Prop} {Q : Exit → Act → World → Prop} (s x : Operand)
    (ho : o.op = .call { callee := .builtin .append, args := #[s, x], argTypes := #[43, 43] })
    (base : Nat) (v : Value) (M1 : List (Int × Int)) (hs : a.eval s = v) (hown : w.ownsRow base 55 2 v M1.length (pcells M1)) (u : Value) (M2 : List (Int × Int)) (hx : a.eval x = u) (hsrc : Src w u M2)
    (hlen : M1.length + M2.length ≤ 100000) (hbase : base ≤ w.heap.size)
    (h : ∀ v' w', w'.ownsRow base 55 2 v' (M1 ++ M2).length (pcells (M1 ++ M2)) → w.grownBy w' v.ownBlock → K (a.put o.dst v') w') : o.wp Try.prog a w K Q := by
  obtain ⟨i0, hi, hz0, hz1, hz2⟩ := info_parts info55
  rcases hsrc with ⟨hu, h0⟩ | ⟨ad, c, hu, hcell⟩
  · subst hu h0
    have hrun := run_append_owned_none (P := Try.prog) (w := w) base 43 o.type 55 i0 2 Try.underlying43 hi v M1.length (pcells M1) hown
    unfold Oper.wp
    simp [execOp, ho, resolve, invoke, builtin, hs, hx, hrun, Result.andThen]
    exact h v w (by simpa using hown) ⟨rfl, rfl, rfl, Nat.le_refl _, fun _ _ _ => rfl⟩
  · subst hu
    obtain ⟨v', w', hr, h2, h3, _, h5⟩ := run_append_own_at (P := Try.prog) w base 43 o.type 55 i0 (.agg #[.int .i64 0, .int .i64 0]) 2 16 Try.underlying43 hi hz0 hz1 hz2 rfl (by decide) v M1.length (pcells M1) hown ad M2.length c (pcells M2) (pcells_length M2) hcell (two_all M2) (by unfold maxLen; omega) (by omega) hbase
    unfold Oper.wp execOp
    simp only [ho, resolve, invoke, builtin, Sem.run_bind, Sem.run_pure, Result.andThen_ok, List.map_toArray, List.map_cons, List.map_nil, hs, hx, hr]
    exact h v' w' (by rw [List.length_append, pcells_append]; exact h2) h3
theorem step_append_pairs {w : World} {ops : Array Oper} {o : Oper} {a : Act} {K : Act → World → Prop} {Q : Exit → Act → World → Prop} {E : Prop} (hw : Region.wanted o (yielded ops a.tmps) = true) (s x : Operand)
    (ho : o.op = .call { callee := .builtin .append, args := #[s, x], argTypes := #[43, 43] })
    (base : Nat) (v : Value) (M1 : List (Int × Int)) (hs : a.eval s = v) (hown : w.ownsRow base 55 2 v M1.length (pcells M1)) (u : Value) (M2 : List (Int × Int)) (hx : a.eval x = u) (hsrc : Src w u M2)
    (hlen : M1.length + M2.length ≤ 100000) (hbase : base ≤ w.heap.size)
    (h : ∀ v' w', w'.ownsRow base 55 2 v' (M1 ++ M2).length (pcells (M1 ++ M2)) → w.grownBy w' v.ownBlock → K (a.put o.dst v') w') :
    if Region.wanted o (yielded ops a.tmps) = true then Oper.wp Try.prog o a w K Q else E := by
  rw [if_pos hw]
  exact wp_append_pairs s x ho base v M1 hs hown u M2 hx hsrc hlen hbase h
theorem own_src {w : World} {base : Nat} {v : Value} {M : List (Int × Int)} (h : w.ownsRow base 55 2 v M.length (pcells M)) : Src w v M := by
  rcases h.2 with ⟨rfl, h0⟩ | ⟨g, cap, cur, rfl, hb, hg, h1, h2, h3, h4⟩
  · exact .inl ⟨rfl, List.eq_nil_of_length_eq_zero h0⟩
  · refine .inr ⟨⟨g, 0, none⟩, cap, rfl, fun j t hj => ?_⟩
    have hadd : (⟨g, 0, none⟩ : Addr).add j = ⟨g, j, none⟩ := by unfold Addr.add; split <;> simp_all
    have hlt := (List.getElem?_eq_some_iff.1 hj).1
    rw [pcells_length] at hlt
    rw [hadd, h.cellAt j (by omega)]; exact hj
end Go.Proofs.Ytjjgloioppjcaaa
