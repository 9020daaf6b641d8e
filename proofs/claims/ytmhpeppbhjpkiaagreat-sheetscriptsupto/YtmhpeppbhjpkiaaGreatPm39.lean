/- The law SheetNil, walked: at any number and any list it answers true and turns nothing. -/
import Derived.Test.YtmhpeppbhjpkiaaGreatPm19
namespace Go.Proofs.YtmhpeppbhjpkiaaGreat
open Go.RowKit

theorem Pieces_nil (w : World) : Calls Tryz.prog 15 #[.pointer none] w fun e w' => ∃ ao cap, e = .returned (.slice ao 0 cap) ∧ Below w.heap.size w w' :=
  (Pieces_any none none 0 (Tr.mk none) w (nilT w) (nilA w) (by simp [Tr.size])).mono fun _ _ ⟨ao, cap, h1, _, h3⟩ => ⟨ao, cap, h1, h3⟩
theorem Rows_nil (w : World) : Calls Tryz.prog 17 #[.pointer none] w fun e w' => ∃ ao cap, e = .returned (.slice ao 0 cap) ∧ Below w.heap.size w w' :=
  (sRows_any none none 0 (Tr.mk none) w (nilT w) (nilA w) (show (Tr.mk none).size ≤ 2097152 by simp [Tr.size])).mono fun _ _ ⟨ao, cap, h1, _, h3⟩ => ⟨ao, cap, h1, h3⟩

theorem bT {w a b : World} (h : Below w.heap.size w a) (g : Below a.heap.size a b) : Below w.heap.size w b := h.trans (g.mono h.size)

end Go.Proofs.YtmhpeppbhjpkiaaGreat

/- The law SheetBack, walked. Conditions: the two lists of bytes together have at most 1048573 bytes. -/
namespace Go.Proofs.YtmhpeppbhjpkiaaGreat
open Go.RowKit

/-- A row of spans lies on where a sheet changes. -/
theorem own_chg {W W' : World} {base sb bb : Nat} {vo va : Value} {O A : List UInt8} {t : Tr} {a : Option Addr} {e : Int} (hS : Sh W base sb bb vo va O A t a e) (hc : Chg W W' sb bb va.ownBlock) {B n : Nat} {v : Value} {xs : List Value} (h : W.ownsRow B 57 3 v n xs) : W'.ownsRow B 57 3 v n xs := by
  rcases h.2 with ⟨rfl, h0⟩ | ⟨g, cap, cur, rfl, h1, h2, h3⟩
  · exact ⟨h.1, .inl ⟨rfl, h0⟩⟩
  · refine ⟨h.1, .inr ⟨g, cap, cur, rfl, h1, ?_, h3⟩⟩
    refine (hc.block g (sh_lt h2) (fun e => ?_) (fun e => ?_) (fun e => ?_)).trans h2
    · subst e; rw [hS.here] at h2; cases h2
    · subst e; rw [hS.buf.here] at h2; cases h2
    · exact Ab.own_ne hS.buf.added h2 (by decide) e

theorem ins_del (l1 l2 : List UInt8) (k : Nat) (h : k ≤ l1.length) : (l1.take k ++ (l2 ++ l1.drop k)).take k ++ (l1.take k ++ (l2 ++ l1.drop k)).drop (k + l2.length) = l1 := by
  have hk : (l1.take k).length = k := by rw [List.length_take]; omega
  have e1 : (l1.take k ++ (l2 ++ l1.drop k)).take k = l1.take k := List.take_left' hk
  have e2 : (l1.take k ++ (l2 ++ l1.drop k)).drop (k + l2.length) = l1.drop k := by rw [← List.append_assoc]; exact List.drop_left' (by rw [List.length_append, hk])
  rw [e1, e2, List.take_append_drop]

end Go.Proofs.YtmhpeppbhjpkiaaGreat

