/- A list of edits of one's own: the list and all its texts are rows that lie apart. -/
import Derived.Test.YthklmdnamkjgmaaCut
namespace Go.Proofs.Ythklmdnamkjgmaa
open Go.RowKit

set_option maxRecDepth 8000
def Er.r1 (r : Er) : Rw := ⟨5, 1, .slice r.p1 r.o r.c1, r.o, bv r.O⟩
def Er.r2 (r : Er) : Rw := ⟨5, 1, .slice r.p2 r.n r.c2, r.n, bv r.N⟩
/-- the texts' rows -/
def rowsE (F : List Er) : List Rw := F.flatMap fun r => [r.r1, r.r2]
theorem rowsE_snoc (F : List Er) (r : Er) : rowsE (F ++ [r]) = rowsE F ++ [r.r1] ++ [r.r2] := by simp [rowsE]
theorem rowsE_len (F : List Er) : (rowsE F).length = F.length * 2 := by
  induction F with
  | nil => rfl
  | cons r F ih => show ([r.r1, r.r2] ++ rowsE F).length = _; rw [List.length_append, ih, List.length_cons]; simp; omega
theorem rowsE_at {F : List Er} {k : Nat} {r : Er} (h : F[k]? = some r) : (rowsE F)[k * 2]? = some r.r1 ∧ (rowsE F)[k * 2 + 1]? = some r.r2 := by
  induction F generalizing k with
  | nil => simp at h
  | cons x F ih =>
    cases k with
    | zero => simp at h; subst h; exact ⟨rfl, rfl⟩
    | succ k =>
      rw [List.getElem?_cons_succ] at h
      obtain ⟨h1, h2⟩ := ih h
      have e : ∀ j, (rowsE (x :: F))[(k + 1) * 2 + j]? = (rowsE F)[k * 2 + j]? := fun j => by
        show ([x.r1, x.r2] ++ rowsE F)[(k + 1) * 2 + j]? = _
        rw [List.getElem?_append_right (by simp; omega)]
        congr 1; simp; omega
      exact ⟨(e 0).trans h1, (e 1).trans h2⟩
/-- a list of edits of one's own -/
structure Lst (w W : World) (v : Value) (F : List Er) : Prop where
  rws : Rws w W (⟨38, 3, v, F.length, ecs F⟩ :: rowsE F)
  bnd : ∀ r ∈ F, r.o ≤ 140737488355328 ∧ r.n ≤ 140737488355328
theorem Lst.keep {w W W' : World} {v : Value} {F : List Er} (h : Lst w W v F) (hb : Below W.heap.size W W') : Lst w W' v F := ⟨h.rws.keep hb, h.bnd⟩
theorem Lst.own {w W : World} {v : Value} {F : List Er} (h : Lst w W v F) : W.ownsRow w.heap.size 38 3 v F.length (ecs F) := h.rws.own 0 _ rfl
theorem Lst.bel {w W : World} {v : Value} {F : List Er} (h : Lst w W v F) : Below w.heap.size w W := h.rws.bel
theorem Lst.nil (w : World) : Lst w w (.slice none 0 0) [] :=
  ⟨⟨fun i r hi => by
      match i, hi with
      | 0, hi => simp at hi; subst hi; exact ⟨rfl, .inl ⟨rfl, rfl⟩⟩
      | i + 1, hi => simp [rowsE] at hi,
    fun i j p q hij hi hj => by
      match i, j, hi, hj with
      | 0, 0, _, _ => exact absurd rfl hij
      | i + 1, _, hi, _ => simp [rowsE] at hi
      | 0, j + 1, _, hj => simp [rowsE] at hj, Below.refl _ _⟩, fun r hr => by simp at hr⟩
theorem Lst.oe {w W : World} {v : Value} {F : List Er} (h : Lst w W v F) {k : Nat} {r : Er} (hk : F[k]? = some r) : Oe W w.heap.size r := by
  obtain ⟨h1, h2⟩ := rowsE_at hk
  have b := h.bnd r (List.mem_of_getElem? hk)
  exact ⟨h.rws.own (k * 2 + 1) _ h1, h.rws.own (k * 2 + 1 + 1) _ h2, h.rws.far (k * 2 + 1) (k * 2 + 1 + 1) _ _ (by omega) h1 h2, b.1, b.2⟩
theorem Lst.edz {w W : World} {v : Value} {F : List Er} (h : Lst w W v F) : ∃ ao c, v = .slice ao F.length c ∧ Edz W ao F ∧ (ao = none → c = 0) := by
  have hl := h.own
  obtain ⟨ao, c, rfl, hE, -⟩ := own_edr hl
  refine ⟨ao, c, rfl, ⟨hE, fun k r hk => (h.oe hk).et⟩, fun e => ?_⟩
  subst e
  rcases hl.2 with ⟨e, _⟩ | ⟨g, cap, cur, e, _⟩
  · simp at e; exact e.2
  · simp at e
/-- an edit more -/
theorem Lst.snoc {w W W' W'' : World} {v v' : Value} {F : List Er} {r : Er} (h : Lst w W v F) (hb : Below W.heap.size W W') (ho : Oe W' W.heap.size r) (hg : W'.grownBy W'' v.ownBlock) (hv : W''.ownsRow w.heap.size 38 3 v' (F.length + 1) (ecs F ++ r.cs.toList))
    (hf : v'.ownBlock = v.ownBlock ∨ ∃ q, v'.ownBlock = some q ∧ W'.heap.size ≤ q) : Lst w W'' v' (F ++ [r]) := by
  have h2 := h.rws.new2 hb ho.t1 ho.t2 ho.far.ne
  have h3 := h2.grow (i := 0) (r := ⟨38, 3, v, F.length, ecs F⟩) rfl hg hv hf
  refine ⟨?_, fun x hx => ?_⟩
  · rw [rowsE_snoc, ecs_snoc, List.length_append]
    exact h3
  · rcases List.mem_append.1 hx with hx | hx
    · exact h.bnd x hx
    · simp at hx; subst hx; exact ⟨ho.b1, ho.b2⟩
/-- append of an edit to a list of one's own -/
theorem app_ed {w : World} (base : Nat) (v : Value) (n : Nat) (xs : List Value) (hown : w.ownsRow base 38 3 v n xs) (ad : Addr) (r : Er) (hc : ∀ j u, r.cs.toList[j]? = some u → w.cell? (ad.add j) = some u) (hb : (n + 1) * 56 ≤ 140737488355328) (hbase : base ≤ w.heap.size) :
    ∃ v' w', (∀ ty c, (Builtin.append_ #[23, 23] ty #[v, .slice (some ad) 1 c]).run Try.prog w = .ok v' w') ∧ w'.ownsRow base 38 3 v' (n + 1) (xs ++ r.cs.toList) ∧ w.grownBy w' v.ownBlock ∧ (v'.ownBlock = v.ownBlock ∨ ∃ q, v'.ownBlock = some q ∧ w.heap.size ≤ q) := by
  obtain ⟨i8, hi8, hz8, hs8, hb8⟩ := info_parts info38
  obtain ⟨v', w', hr, h2, h3, h4, h5⟩ := run_append_own_at (P := Try.prog) w base 23 23 38 i8 _ 3 56 Try.underlying23 hi8 hz8 hs8 hb8 rfl (by decide) v n xs hown ad 1 1 r.cs.toList (by simp [Er.cs]) hc (er_one r) (by unfold maxLen; omega) (by omega) hbase
  refine ⟨v', w', fun ty c => hr, h2, h3, ?_⟩
  rcases h5 with e | e
  · exact .inl e
  · exact .inr ⟨_, e, Nat.le_refl _⟩
end Go.Proofs.Ythklmdnamkjgmaa
