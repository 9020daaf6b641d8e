/- Texts as a row of strings. -/
import Derived.Test.YtaahklapoppgaaaPt02
import Derived.Test.YtaahklapoppgaaaPn00
import Derived.Test.YtaahklapoppgaaaPm31
import Derived.Test.YtaahklapoppgaaaPt03
namespace Go.Proofs.Ytaahklapoppgaaa
open Go.RowKit

set_option maxRecDepth 8000
theorem info9 : (Try.prog.info? 9).map (fun i => (i.zero, i.size, i.bytes)) = some (some (.string ⟨#[]⟩), 1, 16) := by kernel_rfl
/-- texts as strings -/
def svs (T : List (List UInt8)) : List Value := T.map fun l => .string ⟨l.toArray⟩
theorem svs_len (T : List (List UInt8)) : (svs T).length = T.length := by simp [svs]
theorem svs_at {T : List (List UInt8)} {i : Nat} {l : List UInt8} (h : T[i]? = some l) : (svs T)[i]? = some (.string ⟨l.toArray⟩) := by simp [svs, h]
/-- a row of strings of one's own -/
structure Sv (lo : Nat) (W : World) (g n c : Nat) (T : List (List UInt8)) : Prop where
  own : W.ownsRow lo 9 1 (.slice (some ⟨g, 0, none⟩) n c) n (svs T)
  len : T.length = n
  lo : lo ≤ g
theorem Sv.keep {lo g n c : Nat} {W W' : World} {T : List (List UInt8)} (h : Sv lo W g n c T) (hb : Below W.heap.size W W') : Sv lo W' g n c T := ⟨own_keep h.own hb, h.len, h.lo⟩
theorem Sv.wr {lo g n c e : Nat} {W W' : World} {T : List (List UInt8)} (h : Sv lo W g n c T) (hw : Wr e W W') (he : e ≠ 9) : Sv lo W' g n c T := ⟨own_wr h.own hw (fun h => he h.symm), h.len, h.lo⟩
theorem Sv.cell {lo g n c i : Nat} {W : World} {T : List (List UInt8)} {l : List UInt8} (h : Sv lo W g n c T) (hi : T[i]? = some l) : W.cell? ⟨g, i, none⟩ = some (.string ⟨l.toArray⟩) := by
  have h1 := (List.getElem?_eq_some_iff.1 hi).1
  have := h.own.cellAt i (by have := h.len; omega)
  rw [this]; exact svs_at hi
theorem Sv.new {lo : Nat} {W : World} (hl : lo ≤ W.heap.size) (l : List UInt8) : Sv lo (W.alloc (.cells #[.string ⟨l.toArray⟩] 9)) W.heap.size 1 1 [l] := ⟨⟨rfl, .inr ⟨_, 1, _, rfl, hl, Blk.new W 9 #[.string ⟨l.toArray⟩], Nat.le_refl _, by unfold maxLen; omega, rfl, rfl⟩⟩, rfl, hl⟩
/-- a text more -/
theorem Sv.app {lo g n c q : Nat} {W : World} {T : List (List UInt8)} {l : List UInt8} (h : Sv lo W g n c T) (hn : n ≤ 100000) (hn0 : 0 < n) (hq : Blk W q 9 #[.string ⟨l.toArray⟩]) (hl : lo ≤ W.heap.size) :
    ∃ g' c' W', (∀ ty, (Builtin.append_ #[72, 72] ty #[.slice (some ⟨g, 0, none⟩) n c, .slice (some ⟨q, 0, none⟩) 1 1]).run Try.prog W = .ok (.slice (some ⟨g', 0, none⟩) (n + 1) c') W') ∧ Sv lo W' g' (n + 1) c' (T ++ [l]) ∧ Wr 9 W W' ∧ Below lo W W' := by
  obtain ⟨i0, hi0, hz0, hz1, hz2⟩ := info_parts info9
  obtain ⟨v', W2, hrun, ho, hg, -, hf⟩ := run_append_own_at (P := Try.prog) W lo 72 72 9 i0 _ 1 16 Try.underlying72 hi0 hz0 hz1 hz2 rfl (by decide) (.slice (some ⟨g, 0, none⟩) n c) n (svs T) h.own ⟨q, 0, none⟩ 1 1 [.string ⟨l.toArray⟩] rfl (fun j u hj => by rw [add_none]; match j, hj with
    | 0, hj => simp at hj; subst hj; exact hq.cell rfl
    | j + 1, hj => simp at hj) (fun u hu => by simp at hu; subst hu; rfl) (by unfold maxLen; omega) (by omega) hl
  obtain ⟨ao', cap', rfl⟩ := own_shape ho
  obtain ⟨g', rfl, -, hlo', -⟩ := own_pos ho (by omega)
  have e2 : svs T ++ [.string ⟨l.toArray⟩] = svs (T ++ [l]) := by simp [svs]
  rw [e2] at ho
  obtain ⟨cur, hcur⟩ := own_kind h.own rfl
  refine ⟨g', cap', W2, fun ty => ?_, ⟨ho, by rw [List.length_append, h.len]; rfl, hlo'⟩, ⟨g, cur, hcur, hg⟩, (Below.refl lo W).grown hg hl (fun k hk => by injection hk with hk; subst hk; exact h.lo)⟩
  exact hrun
end Go.Proofs.Ytaahklapoppgaaa
