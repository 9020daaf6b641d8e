/- The contract of addbuf.New: a buffer with a copy of the bytes, and nothing added. -/
import Derived.Test.YtpifjghhlcjedaaAbClone
namespace Go.Proofs.Ytpifjghhlcjedaa.Ab
open Go.RowKit

/-- Block b of W is a buffer with the original text O and the added bytes A, all in blocks from base on; its two lists are the values vo and va. -/
structure BufAt (W : World) (base b : Nat) (vo va : Value) (O A : List UInt8) : Prop where
  lo : base ≤ b
  here : W.heap[b]? = some (.cells #[vo, va] 140 (0, 0))
  orig : W.ownsRow base 5 1 vo O.length (bv O)
  added : W.ownsRow base 5 1 va A.length (bv A)
  apart : vo.ownBlock = none ∨ vo.ownBlock ≠ va.ownBlock

set_option maxHeartbeats 400000 in
theorem new_any (v : Value) (l : List UInt8) (w : World) (hbig : l.length ≤ 140737488355328) (h : Hid (Rd w v l)) :
    Calls Try.prog 69 #[v] w fun e w' => ∃ b vo, e = .returned (.pointer (some ⟨b, 0, none⟩)) ∧ BufAt w' w.heap.size b vo (.slice none 0 0) l [] ∧ Below w.heap.size w w' := by
  go_enter Try.func69, Try.ntmps69
  go_wp2_with fail
  refine (clone_any v l _ hbig h).mono ?_
  rintro e w1 ⟨ao, cap, rfl, hown, hb⟩
  go_wp2
  go_ret
  refine ⟨_, _, rfl, ⟨hb.size, heap_alloc_new _ _, hown.alloc _, World.ownsRow_nil _ _ _ _, ?_⟩, bAlloc hb _⟩
  cases ao <;> simp [Value.ownBlock]

/-! ### What a buffer is good for, and how it stays -/

theorem below_grown {w w' : World} (h : Below w.heap.size w w') : w.grownBy w' none := ⟨h.os, h.tape, h.output, h.size, fun k hk _ => h.block k hk⟩

theorem own_keep {w w' : World} {base e size n : Nat} {v : Value} {xs : List Value} (h : w.ownsRow base e size v n xs) (hb : Below w.heap.size w w') : w'.ownsRow base e size v n xs :=
  h.kept (below_grown hb) (by cases hv : v.ownBlock <;> simp)

theorem BufAt.lt {W : World} {base b : Nat} {vo va : Value} {O A : List UInt8} (h : BufAt W base b vo va O A) : b < W.heap.size := (Array.getElem?_eq_some_iff.1 h.here).1

theorem BufAt.keep {W W' : World} {base b : Nat} {vo va : Value} {O A : List UInt8} (h : BufAt W base b vo va O A) (hb : Below W.heap.size W W') : BufAt W' base b vo va O A :=
  ⟨h.lo, by rw [hb.block b h.lt]; exact h.here, own_keep h.orig hb, own_keep h.added hb, h.apart⟩

theorem BufAt.alloc {W : World} {base b : Nat} {vo va : Value} {O A : List UInt8} (h : BufAt W base b vo va O A) (x : Obj) : BufAt (W.alloc x) base b vo va O A :=
  h.keep (bAlloc (Below.refl _ _) x)

theorem BufAt.drew {W : World} {base b : Nat} {vo va : Value} {O A : List UInt8} (h : BufAt W base b vo va O A) : BufAt W.drew base b vo va O A :=
  h.keep (Below.refl _ _).drew

theorem BufAt.cell0 {W : World} {base b : Nat} {vo va : Value} {O A : List UInt8} (h : BufAt W base b vo va O A) : W.cell? ⟨b, 0, none⟩ = some vo := by
  rw [cell_of_row W b 0 _ 140 (0, 0) h.here]; rfl
theorem BufAt.cell1 {W : World} {base b : Nat} {vo va : Value} {O A : List UInt8} (h : BufAt W base b vo va O A) : W.cell? ⟨b, 1, none⟩ = some va := by
  rw [cell_of_row W b 1 _ 140 (0, 0) h.here]; rfl

/-- an owned list is one that can be read -/
theorem own_rd {w : World} {base : Nat} {v : Value} {l : List UInt8} (h : w.ownsRow base 5 1 v l.length (bv l)) : Rd w v l := by
  rcases h.2 with ⟨rfl, h0⟩ | ⟨g, cap, cur, rfl, _⟩
  · exact .inl ⟨rfl, List.eq_nil_of_length_eq_zero h0⟩
  · exact .inr ⟨_, _, rfl, fun j u hu => h.cells rfl j u hu⟩

theorem Rd.keep {w w' : World} {v : Value} {l : List UInt8} (h : Rd w v l) (hb : Below w.heap.size w w') : Rd w' v l := by
  rcases h with ⟨rfl, rfl⟩ | ⟨a, c, rfl, hc⟩
  · exact .inl ⟨rfl, rfl⟩
  · refine .inr ⟨a, c, rfl, fun j u hu => ?_⟩
    have h1 := hc j u hu
    have hlt : (a.add j).block < w.heap.size := by
      rcases Nat.lt_or_ge (a.add j).block w.heap.size with h' | h'
      · exact h'
      · simp [World.cell?, Array.getElem?_eq_none h'] at h1
    rw [hb.cell hlt]; exact h1
end Go.Proofs.Ytpifjghhlcjedaa.Ab
