/- A row of changes that grows: each change's edits in a stretch of blocks of its own. -/
import Derived.Test.YtaahklapoppgaaaQm26
import Derived.Test.YtaahklapoppgaaaQn00
namespace Go.Proofs.Ytaahklapoppgaaa
open Go.RowKit

set_option maxRecDepth 8000
theorem Gow.reB {lo hi B B' : Nat} {W : World} {H : List Nr} {S : List (Nat × Nat)} (h : Gow lo hi W B H S) (hB : hi ≤ B') : Gow lo hi W B' H S := ⟨h.len, h.own, fun k p hp => by have := h.off k p hp; omega, h.ord⟩
structure Hrow (lo hi : Nat) (W : World) (v : Value) (H : List Nr) (S : List (Nat × Nat)) : Prop where
  own : W.ownsRow lo 63 58 v H.length (ncs H)
  up : ∀ B, v.ownBlock = some B → B < hi ∧ Gow lo hi W B H S
  nil : v.ownBlock = none → S = []
  top : hi ≤ W.heap.size
  ln : lo ≤ hi
theorem Hrow.new {lo hi : Nat} {W : World} (h1 : lo ≤ hi) (h2 : hi ≤ W.heap.size) : Hrow lo hi W (.slice none 0 0) [] [] := ⟨⟨rfl, .inl ⟨rfl, rfl⟩⟩, fun B h => (by cases h), fun _ => rfl, h2, h1⟩
theorem Hrow.keep {lo hi : Nat} {W W' : World} {v : Value} {H : List Nr} {S : List (Nat × Nat)} (h : Hrow lo hi W v H S) (hb : Below W.heap.size W W') : Hrow lo hi W' v H S := ⟨own_keep h.own hb, fun B hB => ⟨(h.up B hB).1, (h.up B hB).2.keep hb⟩, h.nil, Nat.le_trans h.top hb.size, h.ln⟩
theorem Hrow.kept {lo hi a b : Nat} {W W' : World} {v : Value} {H : List Nr} {S : List (Nat × Nat)} (h : Hrow lo hi W v H S) (hk : Kept a b W W') (hd : b ≤ lo ∨ hi ≤ a) : Hrow lo hi W' v H S :=
  ⟨own_same h.own (fun k hk1 hlt => hk.block k hlt (by have := (h.own.lt k hk1).1; have := (h.up k hk1).1; omega)), fun B hB => ⟨(h.up B hB).1, (h.up B hB).2.kept hk hd⟩, h.nil, Nat.le_trans h.top hk.size, h.ln⟩
theorem Hrow.wide {lo hi hi' : Nat} {W : World} {v : Value} {H : List Nr} {S : List (Nat × Nat)} (h : Hrow lo hi W v H S) (h1 : hi ≤ hi') (h2 : hi' ≤ W.heap.size) : Hrow lo hi' W v H S := ⟨h.own, fun B hB => ⟨by have := (h.up B hB).1; omega, (h.up B hB).2.wide (Nat.le_refl _) h1⟩, h.nil, h2, by have := h.ln; omega⟩
theorem Hrow.app {lo lo' hi a b q : Nat} {W : World} {v : Value} {H : List Nr} {S : List (Nat × Nat)} {r : Nr} (h : Hrow lo hi W v H S) (hr : Nw a b W r) (hab : a ≤ b) (hbt : b ≤ W.heap.size) (hd : hi ≤ a ∨ b ≤ lo) (hlo : lo' ≤ lo ∧ lo' ≤ a) (hn : H.length ≤ 1000000) (hq : Blk W q 63 (nd r)) :
    ∃ v' W2, (∀ ty, (Builtin.append_ #[22, 22] ty #[v, .slice (some ⟨q, 0, none⟩) 1 1]).run Try.prog W = .ok v' W2) ∧ Hrow lo' W2.heap.size W2 v' (H ++ [r]) (S ++ [(a, b)]) ∧ W.grownBy W2 v.ownBlock ∧ (v'.ownBlock = v.ownBlock ∨ v'.ownBlock = some W.heap.size) := by
  obtain ⟨i0, hi0, hz0, hz1, hz2⟩ := info_parts info63b
  have hcl : r.cs.length = 58 := hr.nz.cl
  have htop := h.top
  have hln := h.ln
  obtain ⟨v', W2, hrun, ho, hg, -, hf⟩ := run_append_own_at (P := Try.prog) W lo 22 22 63 i0 _ 58 480 Try.underlying22 hi0 hz0 hz1 hz2 (by show zr.cs.toArray.size = 58; rfl) (by decide) v H.length (ncs H) h.own ⟨q, 0, none⟩ 1 1 r.cs (by omega) (fun j u hj => by have := range_blk hq j u hj; rw [add_none]; exact this) r.one (by unfold maxLen; omega) (by omega) (by omega)
  have hs2 := hg.size
  have e1 : ncs (H ++ [r]) = ncs H ++ r.cs := by rw [ncs_append]; simp [ncs]
  have hkb : ∀ B, v.ownBlock = some B → Kept B (B + 1) W W2 := fun B hB => by rw [hB] at hg; exact Kept.one hg
  have hnw : Nw a b W2 r := by
    cases hv : v.ownBlock with
    | none => exact hr.kept (a := 0) (b := 0) ⟨hg.os, hg.tape, hg.output, hg.size, fun k hk _ => hg.block k hk (by rw [hv]; simp)⟩ (.inl (Nat.zero_le _))
    | some B =>
      have := (h.own.lt B hv).1
      have := (h.up B hv).1
      exact hr.kept (hkb B hv) (by omega)
  refine ⟨v', W2, fun ty => hrun, ⟨?_, fun B hB => ?_, fun hB => ?_, Nat.le_refl _, by omega⟩, hg, hf⟩
  · rw [List.length_append, e1]; exact own_lower ho hlo.1
  · refine ⟨(ho.lt B hB).2, ?_⟩
    rcases hf with e | e
    · rw [hB] at e
      have hB0 := e.symm
      have hg' : W.grownBy W2 (some B) := by rw [hB0] at hg; exact hg
      have hu := h.up B hB0
      have hl := (h.own.lt B hB0).1
      exact (hu.2.at hg').snoc2 (p := (a, b)) hnw (by rcases hd with x | x; exact .inl x; exact .inr x) hab ⟨by omega, by omega⟩ hlo (by show B + 1 ≤ a ∨ b ≤ B; omega)
    · rw [hB] at e
      injection e with e
      cases hv : v.ownBlock with
      | none =>
        have hS := h.nil hv
        have hH : H = [] := by
          rcases h.own.2 with ⟨-, h0⟩ | ⟨g, cap, cur, rfl, -⟩
          · exact List.eq_nil_of_length_eq_zero h0
          · cases hv
        subst hS hH
        exact (Gow.nil lo lo W2 B).snoc2 (p := (a, b)) hnw (by show lo ≤ a ∨ b ≤ lo; omega) hab ⟨by omega, by omega⟩ hlo (by show B + 1 ≤ a ∨ b ≤ B; omega)
      | some B0 =>
        have hg' : W.grownBy W2 (some B0) := by rw [hv] at hg; exact hg
        have hu := h.up B0 hv
        exact ((hu.2.at hg').reB (B' := B) (by omega)).snoc2 (p := (a, b)) hnw (by rcases hd with x | x; exact .inl x; exact .inr x) hab ⟨by omega, by omega⟩ hlo (by show B + 1 ≤ a ∨ b ≤ B; omega)
  · exfalso
    rcases ho.2 with ⟨-, h0⟩ | ⟨g, cap, cur, rfl, -⟩
    · omega
    · cases hB
theorem Gow.tight {lo hi hi' B : Nat} {W : World} {H : List Nr} {S : List (Nat × Nat)} (h : Gow lo hi W B H S) (hh : ∀ p ∈ S, p.2 ≤ hi') : Gow lo hi' W B H S := ⟨h.len, h.own, fun k p hp => by have := h.off k p hp; have := hh p (List.mem_of_getElem? hp); omega, h.ord⟩
theorem Hrow.hst {lo hi : Nat} {W : World} {v : Value} {H : List Nr} {S : List (Nat × Nat)} (h : Hrow lo hi W v H S) (hne : 1 ≤ H.length) : ∃ B k X, v = .slice (some ⟨B, 0, none⟩) H.length k ∧ H.length ≤ k ∧ Hst lo hi W B H X S := by
  rcases h.own.2 with ⟨-, h0⟩ | ⟨B, k, cur, rfl, hb, hc, hk, hm, hsz, htk⟩
  · omega
  · have hu := h.up B rfl
    refine ⟨B, k, cur.toList.drop (H.length * 58), rfl, hk, ⟨?_, hu.2, hb, hu.1, h.top⟩⟩
    unfold Nrow Blk
    have e : ncs H ++ cur.toList.drop (H.length * 58) = cur.toList := by rw [← htk, List.take_append_drop]
    rw [e, hc]
theorem Hrow.row {lo hi B k : Nat} {W : World} {H : List Nr} {S : List (Nat × Nat)} (h : Hrow lo hi W (.slice (some ⟨B, 0, none⟩) H.length k) H S) : ∃ X, Hst lo hi W B H X S ∧ X.length = (k - H.length) * 58 := by
  rcases h.own.2 with ⟨e, -⟩ | ⟨B', k', cur, e, hb, hc, hk, hm, hsz, htk⟩
  · cases e
  · injection e with e1 e2 e3
    injection e1 with e1
    injection e1 with e1
    subst e1 e3
    have hu := h.up B rfl
    refine ⟨cur.toList.drop (H.length * 58), ⟨?_, hu.2, hb, hu.1, h.top⟩, ?_⟩
    · unfold Nrow Blk
      have e : ncs H ++ cur.toList.drop (H.length * 58) = cur.toList := by rw [← htk, List.take_append_drop]
      rw [e, hc]
    · rw [List.length_drop, Array.length_toList, hsz, Nat.sub_mul]
/-- what a call that copies a history gives -/
def RcP (D : List Nd) (now : Int) (w : World) (e : Ending) (w' : World) : Prop := ∃ v H S, e = .returned (.agg #[v, .int .i64 now]) ∧ H.map Nr.d = D ∧ Hrow w.heap.size w'.heap.size w' v H S ∧ Below w.heap.size w w'
theorem wE_nd (r : Nr) (a : Option Addr) (k : Nat) (F : List Er) : (nd r).setIfInBounds 2 (.slice a F.length k) = nd (r.wE a k F) := by unfold nd Nr.cs Nr.hd; rw [List.setIfInBounds_toArray]; rfl
end Go.Proofs.Ytaahklapoppgaaa
