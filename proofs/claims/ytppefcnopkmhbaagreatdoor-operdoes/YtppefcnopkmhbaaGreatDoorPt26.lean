/- Jst -/
import Derived.Test.YtppefcnopkmhbaaGreatDoorPt25
namespace Go.Proofs.YtppefcnopkmhbaaGreatDoor
open Go.RowKit

set_option maxRecDepth 8000
theorem Blk.lt2 {W : World} {B e : Nat} {cs : Array Value} (h : Blk W B e cs) : B < W.heap.size := h.lt
theorem Blk.off2 {W W' : World} {B e : Nat} {cs : Array Value} {r : Option Nat} (h : Blk W B e cs) (hg : W.grownBy W' r) (hne : some B ≠ r) : Blk W' B e cs := by
  unfold Blk
  rw [hg.block B h.lt2 hne]
  exact h
/-- texts do not lie in an effect's box -/
theorem Tx.offe {W W' : World} {a : Option Addr} {n c p : Nat} {l : List UInt8} {v tv : Value} {cur how : Int} {set lin typ : Bool} (h : Tx W a n c l) (hp : Blk W p 35 (ef7 v cur set lin tv how typ)) (hv : ∀ z, v ≠ .int .u8 z) (ht : ∀ z, tv ≠ .int .u8 z) (hg : W.grownBy W' (some p)) : Tx W' a n c l := by
  refine ⟨h.len, h.cap, h.big, h.nil, fun b hb j hj => ?_⟩
  have h1 := h.cells b hb j hj
  have hne : (b.add j).block ≠ p := fun e => by
    have hs := World.cell?_spot h1
    generalize b.add j = d at *
    obtain ⟨bb, oo, ss⟩ := d
    dsimp only at e hs
    subst e hs
    have hc := h1
    rw [cell_of_row W bb oo _ 35 (0, 0) hp] at hc
    match oo, hc with
    | 0, hc => simp [ef7] at hc; exact hv _ hc
    | 1, hc => simp [ef7] at hc
    | 2, hc => simp [ef7] at hc
    | 3, hc => simp [ef7] at hc
    | 4, hc => simp [ef7] at hc; exact ht _ hc
    | 5, hc => simp [ef7] at hc
    | 6, hc => simp [ef7] at hc
    | k + 7, hc => simp [ef7] at hc
  rw [World.cell?_of_block (hg.block _ (lt_of_cell h1) (by simpa using hne))]
  exact h1
end Go.Proofs.YtppefcnopkmhbaaGreatDoor
