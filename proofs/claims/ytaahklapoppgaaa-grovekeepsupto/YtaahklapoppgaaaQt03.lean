/- Writes into blocks of another type. -/
import Derived.Test.YtaahklapoppgaaaQm35
import Derived.Test.YtaahklapoppgaaaQm12
namespace Go.Proofs.Ytaahklapoppgaaa
open Go.RowKit

set_option maxRecDepth 8000
/-- a write into a block of type e -/
def Wr (e : Nat) (W W' : World) : Prop := ∃ g cs, W.heap[g]? = some (.cells cs e (0, 0)) ∧ W.grownBy W' (some g)
theorem own_wr {W W' : World} {base t s n e : Nat} {v : Value} {xs : List Value} (h : W.ownsRow base t s v n xs) (hw : Wr e W W') (hne : t ≠ e) : W'.ownsRow base t s v n xs := by
  obtain ⟨g, cs, h1, h2⟩ := hw
  refine own_same h fun k hk hlt => h2.block k hlt (fun e' => ?_)
  injection e' with e'
  subst e'
  obtain ⟨cur, hc⟩ := own_kind h hk
  rw [h1] at hc
  simp at hc
  exact hne hc.2.symm
theorem Blk.wr {W W' : World} {B t e : Nat} {cs : Array Value} (h : Blk W B t cs) (hw : Wr e W W') (hne : t ≠ e) : Blk W' B t cs := by
  obtain ⟨g, cs', h1, h2⟩ := hw
  refine h.grown h2 (fun e' => ?_)
  injection e' with e'
  subst e'
  unfold Blk at h
  rw [h1] at h
  simp at h
  exact hne h.2.symm
theorem Rs.wr {lo hi e : Nat} {W W' : World} {R : List Rw} (h : Rs lo hi W R) (hw : Wr e W W') (hne : ∀ r ∈ R, r.t ≠ e) : Rs lo hi W' R := ⟨fun i r hi => own_wr (h.own i r hi) hw (hne r (List.mem_of_getElem? hi)), h.up, h.far⟩
theorem rowF_t {v : Value} {F : List Er} {r : Rw} (h : r ∈ rowF v F) : r.t = 77 ∨ r.t = 5 := by
  rcases List.mem_cons.1 h with rfl | h
  · exact .inl rfl
  · obtain ⟨x, -, hx⟩ := List.mem_flatMap.1 h
    simp at hx
    rcases hx with rfl | rfl <;> exact .inr rfl
theorem Ls.wr {lo hi e : Nat} {W W' : World} {v : Value} {F : List Er} (h : Ls lo hi W v F) (hw : Wr e W W') (h1 : e ≠ 77) (h2 : e ≠ 5) : Ls lo hi W' v F := ⟨h.rs.wr hw (fun r hr => by rcases rowF_t hr with h | h <;> omega), h.bnd⟩
theorem Nw.wr {lo hi e : Nat} {W W' : World} {r : Nr} (h : Nw lo hi W r) (hw : Wr e W W') (h1 : e ≠ 77) (h2 : e ≠ 5) : Nw lo hi W' r := ⟨h.ls.wr hw h1 h2, h.len, h.big, h.ww, h.wm⟩
theorem Gow.wr {lo hi B e : Nat} {W W' : World} {H : List Nr} {S : List (Nat × Nat)} (h : Gow lo hi W B H S) (hw : Wr e W W') (h1 : e ≠ 77) (h2 : e ≠ 5) : Gow lo hi W' B H S := ⟨h.len, fun k r p a b => (h.own k r p a b).wr hw h1 h2, h.off, h.ord⟩
theorem Hst.wr {lo hi B e : Nat} {W W' : World} {H : List Nr} {X : List Value} {S : List (Nat × Nat)} (h : Hst lo hi W B H X S) (hw : Wr e W W') (h1 : e ≠ 77) (h2 : e ≠ 5) (h3 : e ≠ 63) : Hst lo hi W' B H X S := by
  obtain ⟨g, cs, w1, w2⟩ := hw
  exact ⟨Blk.wr h.row ⟨g, cs, w1, w2⟩ (fun h => h3 h.symm), h.gow.wr ⟨g, cs, w1, w2⟩ h1 h2, h.l0, h.h0, Nat.le_trans h.top w2.size⟩
theorem Wr.below {lo e : Nat} {a W W' : World} (h : Below lo a W) (hw : Wr e W W') (hlo : ∀ g cs, W.heap[g]? = some (.cells cs e (0, 0)) → W.grownBy W' (some g) → lo ≤ g) (hl : lo ≤ W.heap.size) : Below lo a W' := by
  obtain ⟨g, cs, h1, h2⟩ := hw
  exact h.grown h2 hl (fun k hk => by injection hk with hk; subst hk; exact hlo _ _ h1 h2)
theorem wr_blk {W W' : World} {B e : Nat} {cs : Array Value} (h : Blk W B e cs) (hg : W.grownBy W' (some B)) : Wr e W W' := ⟨B, cs, h, hg⟩

end Go.Proofs.Ytaahklapoppgaaa
