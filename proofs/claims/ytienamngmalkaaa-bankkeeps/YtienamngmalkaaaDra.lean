/- Regions that draw their order, one operation after another; whole banks in them. -/
import Derived.Test.YtienamngmalkaaaReg
import Derived.OrdersHeld
namespace Go.Proofs.Ytienamngmalkaaa
open Go.RowKit

section
variable {P : Program} {ops : Array Oper} {Q : Exit → Act → World → Prop} {md : Region.Mode} {S : World → Prop}
/-- whichever of these comes up -/
def AllH (P : Program) (md : Region.Mode) (ops : Array Oper) (Q : Exit → Act → World → Prop) (S : World → Prop) (fuel : Nat) (listed : Array Bool) (a : Act) (w : World) (rs : List Nat) : Prop :=
  ∀ i ∈ rs, wpOp P ops Q i (fun a' w' => S w' ∧ wpAnyH P md ops Q S fuel (listed.setIfInBounds i true) a' w') a w
theorem AllH.nil {fuel : Nat} {listed : Array Bool} {a : Act} {w : World} : AllH P md ops Q S fuel listed a w [] := fun _ h => by cases h
theorem AllH.cons {fuel : Nat} {listed : Array Bool} {a : Act} {w : World} {i : Nat} {o : Oper} {rs : List Nat} (ho : ops[i]? = some o)
    (h : ∀ K' : Act → World → Prop, (∀ a w, (S w ∧ wpAnyH P md ops Q S fuel (listed.setIfInBounds i true) a w) → K' a w) → if Region.wanted o (yielded ops a.tmps) = true then Oper.wp P o a w K' Q else K' (a.put o.dst undef) w)
    (hs : AllH P md ops Q S fuel listed a w rs) : AllH P md ops Q S fuel listed a w (i :: rs) := fun j hj => by
  rcases List.mem_cons.1 hj with rfl | hj
  · exact wpOp_step ho h
  · exact hs j hj
end
section
variable {ops : Array Oper} {Q : Exit → Act → World → Prop} {S : World → Prop} {op : Oper} {a : Act} {K : Act → World → Prop} {L M : List Rg} {B : Nat}
theorem yi28 (hw : Region.wanted op (yielded ops a.tmps) = true) (x : Operand) (ho : op.op = .load 28 x) (hx : a.eval x = .pointer (some ⟨B, 0, none⟩)) (hL : L.length = 37) (hS : ∀ w, S w → Blk w B 28 (bk L)) : YieldsIf Try.prog ops S op (.agg (bk L)) a :=
  yieldsIf_load_mid hw 28 x ho B 0 hx (rl L) _ (fun w9 hw => blk_range (pre := []) (mid := rl L) (post := []) (by simpa [bk] using hS w9 hw)) Try.underlying28 rfl (by rw [info28, rl_len, hL])
theorem st28 {w : World} {c : Bool} {E : Prop} (hc : c = true) (x y : Operand) (ho : op.op = .store 28 x y) (hx : a.eval x = .pointer (some ⟨B, 0, none⟩)) (hy : a.eval y = .agg (bk L)) (hL : L.length = 37) (hM : M.length = 37) (h : Blk w B 28 (bk M)) (hr : K (a.put op.dst undef) (put28 w B L)) :
    if c = true then Oper.wp Try.prog op a w K Q else E := by
  rw [if_pos hc]
  have ht : w.there B 0 (bk L).size := by
    have := blk_there (pre := []) (mid := rl M) (post := []) (by simpa [bk] using h)
    rw [rl_len, hM] at this
    rw [bk_size, hL]; exact this
  exact wp_store_mid 28 x y ho B 0 (bk L) hx hy ht (by rw [info28, bk_size, hL]) (all_oneCell_toArray (rl_one L)) (by simpa [put28, bk] using hr)
end
theorem grown_setCells {B : Nat} : ∀ (vs : List Value) (o : Nat) (w : World), w.grownBy (w.setCells B o vs) (some B)
  | [], _, _ => ⟨rfl, rfl, rfl, Nat.le_refl _, fun _ _ _ => rfl⟩
  | v :: r, o, w => (grown_set w B o v).trans (grown_setCells r (o + 1) _)
theorem grown_put28 (w : World) (B : Nat) (L : List Rg) : w.grownBy (put28 w B L) (some B) := grown_setCells _ _ _
end Go.Proofs.Ytienamngmalkaaa
