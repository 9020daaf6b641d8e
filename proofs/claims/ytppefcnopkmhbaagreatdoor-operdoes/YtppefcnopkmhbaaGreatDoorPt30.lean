/- Rov -/
import Derived.Test.YtppefcnopkmhbaaGreatDoorPt29
namespace Go.Proofs.YtppefcnopkmhbaaGreatDoor
open Go.RowKit

set_option maxRecDepth 8000
/-- what a reference's call answers -/
def RfQ (x : Ef) (z : Int) (w : World) (e : Ending) (w' : World) : Prop := ∃ v F tv, e = .returned (.tuple #[efV v tv x, .int .i64 z]) ∧ Efr w' v tv F x ∧ Below w.heap.size w w'
theorem RfQ.no {z : Int} {w w' : World} (hb : Below w.heap.size w w') : RfQ ef0 z w (.returned (.tuple #[efz, .int .i64 z])) w' := ⟨.slice none 0 0, [], .slice none 0 0, rfl, efz_efr w', hb⟩
theorem edr_offe {W W' : World} {ao : Option Addr} {E : List Er} {B : Nat} {v tv : Value} {cur how : Int} {set lin typ : Bool} (h : Edr W ao E) (hK : Blk W B 35 (ef7 v cur set lin tv how typ)) (hv : ∀ z, v ≠ .int .i64 z) (ht : ∀ z, tv ≠ .int .i64 z) (hg : W.grownBy W' (some B)) : Edr W' ao E := by
  intro k r hk
  obtain ⟨g, o, h0, h1, h2, h3⟩ := h k r hk
  have hne : g ≠ B := fun e => by
    subst e
    have hc1 := h1
    have hc2 := h2
    rw [cell_of_row W g _ _ 35 (0, 0) hK] at hc1
    rw [cell_of_row W g _ _ 35 (0, 0) hK] at hc2
    generalize o + k * 3 = j at *
    match j, hc1, hc2 with
    | 0, hc1, _ => simp [ef7] at hc1; exact hv _ hc1
    | 1, _, hc2 => simp [ef7] at hc2
    | 2, hc1, _ => simp [ef7] at hc1
    | 3, hc1, _ => simp [ef7] at hc1
    | 4, hc1, _ => simp [ef7] at hc1; exact ht _ hc1
    | 5, _, hc2 => simp [ef7] at hc2
    | 6, hc1, _ => simp [ef7] at hc1
    | i + 7, hc1, _ => simp [ef7] at hc1
  exact ⟨g, o, h0, by rw [World.cell?_of_block (hg.block _ (lt_of_cell h1) (by simpa using hne))]; exact h1, by rw [World.cell?_of_block (hg.block _ (lt_of_cell h2) (by simpa using hne))]; exact h2, by rw [World.cell?_of_block (hg.block _ (lt_of_cell h3) (by simpa using hne))]; exact h3⟩
theorem edz_offe {W W' : World} {ao vo to' : Option Addr} {n1 c1 n2 c2 : Nat} {E : List Er} {B : Nat} {cur how : Int} {set lin typ : Bool} (h : Edz W ao E) (hK : Blk W B 35 (ef7 (.slice vo n1 c1) cur set lin (.slice to' n2 c2) how typ)) (hg : W.grownBy W' (some B)) : Edz W' ao E :=
  ⟨edr_offe h.row hK (by intro z e; cases e) (by intro z e; cases e) hg, fun k r hk => by
    have := h.txs k r hk
    exact ⟨this.t1.offe hK (by intro z e; cases e) (by intro z e; cases e) hg, this.t2.offe hK (by intro z e; cases e) (by intro z e; cases e) hg, this.b1, this.b2⟩⟩
theorem RfQ.out {x : Ef} {z : Int} {w w5 w6 : World} {ao : Option Addr} {c : Nat} {F : List Er} {B : Nat} (hF : F.map Er.d = x.es) (hE : Edz w5 ao F) (hx : x.txt = []) (hK : Blk w5 B 35 (ef7 (.slice none 0 0) 0 false false (.slice none 0 0) 0 false)) (hb : Below w.heap.size w w5) (hg : w5.grownBy w6 (some B)) (hB : w.heap.size ≤ B) :
    RfQ x z w (.returned (.tuple #[efV (.slice ao F.length c) (.slice none 0 0) x, .int .i64 z])) w6 := by
  refine ⟨_, F, .slice none 0 0, rfl, ⟨hF, ⟨ao, c, rfl, edz_offe hE hK hg⟩, ⟨none, 0, ?_, ?_⟩⟩, hb.grown hg hb.size (fun g hg' => by injection hg' with hg'; omega)⟩
  · rw [hx]; rfl
  · rw [hx]; exact tx_nil w6
end Go.Proofs.YtppefcnopkmhbaaGreatDoor
