/- A sheet's worlds: what its changing calls leave. -/
import Derived.Test.YtpifjghhlcjedaaJl
namespace Go.Proofs.Ytpifjghhlcjedaa
open Go.RowKit

/-- A row lies on where its block does. -/
theorem own_same {A B : World} {base e size n : Nat} {v : Value} {xs : List Value} (h : A.ownsRow base e size v n xs) (hk : ∀ k, v.ownBlock = some k → k < A.heap.size → B.heap[k]? = A.heap[k]?) : B.ownsRow base e size v n xs := by
  obtain ⟨h1, h2⟩ := h
  refine ⟨h1, ?_⟩
  rcases h2 with h2 | ⟨g, cap, cur, e1, e2, e3, e4⟩
  · exact .inl h2
  · refine .inr ⟨g, cap, cur, e1, e2, ?_, e4⟩
    rw [hk g (by rw [e1]; rfl) (sh_lt e3)]
    exact e3

/-- All blocks of w but the sheet's, its buffer's and the row of what was added lie as they lay. -/
structure Chg (w w' : World) (sb bb : Nat) (row : Option Nat) : Prop where
  os : w'.os = w.os
  tape : w'.tape = w.tape
  output : w'.output = w.output
  size : w.heap.size ≤ w'.heap.size
  block : ∀ k, k < w.heap.size → k ≠ sb → k ≠ bb → some k ≠ row → w'.heap[k]? = w.heap[k]?

theorem Chg.of_below {w w' : World} (h : Below w.heap.size w w') (sb bb : Nat) (row : Option Nat) : Chg w w' sb bb row := ⟨h.os, h.tape, h.output, h.size, fun k hk _ _ _ => h.block k hk⟩
theorem Chg.below {w w' w'' : World} {sb bb : Nat} {row : Option Nat} (h : Chg w w' sb bb row) (hb : Below w'.heap.size w' w'') : Chg w w'' sb bb row :=
  ⟨hb.os.trans h.os, hb.tape.trans h.tape, hb.output.trans h.output, Nat.le_trans h.size hb.size, fun k hk h1 h2 h3 => (hb.block k (Nat.lt_of_lt_of_le hk h.size)).trans (h.block k hk h1 h2 h3)⟩
theorem Chg.set {w w' : World} {sb bb : Nat} {row : Option Nat} (h : Chg w w' sb bb row) {b : Nat} (hb : b = sb ∨ w.heap.size ≤ b) (i : Nat) (v : Value) : Chg w (w'.setCell ⟨b, i, none⟩ v) sb bb row :=
  ⟨h.os, h.tape, h.output, by show w.heap.size ≤ (w'.heap.modify _ _).size; rw [Array.size_modify]; exact h.size, fun k hk h1 h2 h3 => (Below.heap_setCell _ _ _ _ (by show k ≠ b; rcases hb with rfl | hb <;> omega)).trans (h.block k hk h1 h2 h3)⟩

/-- A sheet in memory. -/
structure Sh (W : World) (base sb bb : Nat) (vo va : Value) (O A : List UInt8) (t : Tr) (a : Option Addr) (e : Int) : Prop where
  lo : base ≤ sb
  here : W.heap[sb]? = some (.cells #[.pointer (some ⟨bb, 0, none⟩), .pointer a, .int .i64 e] 113 (0, 0))
  buf : Ab.BufAt W base bb vo va O A
  tree : At W t a

theorem Sh.shb {W : World} {base sb bb : Nat} {vo va : Value} {O A : List UInt8} {t : Tr} {a : Option Addr} {e : Int} (h : Sh W base sb bb vo va O A t a e) : ShB W base sb (some ⟨bb, 0, none⟩) (.pointer a) (.int .i64 e) O A := ⟨h.here, .inr ⟨bb, vo, va, rfl, h.buf⟩⟩
theorem Sh.sht {W : World} {base sb bb : Nat} {vo va : Value} {O A : List UInt8} {t : Tr} {a : Option Addr} {e : Int} (h : Sh W base sb bb vo va O A t a e) : ShT W (some ⟨sb, 0, none⟩) a e := .inr ⟨sb, _, rfl, h.here⟩
theorem Sh.keep {W W' : World} {base sb bb : Nat} {vo va : Value} {O A : List UInt8} {t : Tr} {a : Option Addr} {e : Int} (h : Sh W base sb bb vo va O A t a e) (hb : Below W.heap.size W W') : Sh W' base sb bb vo va O A t a e :=
  ⟨h.lo, (hb.block sb (sh_lt h.here)).trans h.here, h.buf.keep hb, h.tree.keep hb⟩

/-- In the midst of putIn. -/
structure Pw (w W : World) (base sb bb g6 g7 : Nat) (vo va va0 : Value) (O A : List UInt8) (T U : Tr) (x y a : Option Addr) (e : Int) : Prop where
  chg : Chg w W sb bb va0.ownBlock
  here : W.heap[sb]? = some (.cells #[.pointer (some ⟨bb, 0, none⟩), .pointer a, .int .i64 e] 113 (0, 0))
  buf : Ab.BufAt W base bb vo va O A
  own : va.ownBlock = va0.ownBlock ∨ ∃ k, va.ownBlock = some k ∧ w.heap.size ≤ k
  b6 : W.heap[g6]? = some (.cells #[.pointer x] 26 (0, 0))
  b7 : W.heap[g7]? = some (.cells #[.pointer y] 26 (0, 0))
  l6 : w.heap.size ≤ g6
  l7 : w.heap.size ≤ g7
  n67 : g6 ≠ g7
  tx : At W T x
  uy : At W U y

theorem Pw.below {w W W' : World} {base sb bb g6 g7 : Nat} {vo va va0 : Value} {O A : List UInt8} {T U : Tr} {x y a : Option Addr} {e : Int} (h : Pw w W base sb bb g6 g7 vo va va0 O A T U x y a e) (hb : Below W.heap.size W W') : Pw w W' base sb bb g6 g7 vo va va0 O A T U x y a e :=
  ⟨h.chg.below hb, (hb.block _ (sh_lt h.here)).trans h.here, h.buf.keep hb, h.own, (hb.block _ (sh_lt h.b6)).trans h.b6, (hb.block _ (sh_lt h.b7)).trans h.b7, h.l6, h.l7, h.n67, h.tx.keep hb, h.uy.keep hb⟩

theorem Pw.shb {w W : World} {base sb bb g6 g7 : Nat} {vo va va0 : Value} {O A : List UInt8} {T U : Tr} {x y a : Option Addr} {e : Int} (h : Pw w W base sb bb g6 g7 vo va va0 O A T U x y a e) : ShB W base sb (some ⟨bb, 0, none⟩) (.pointer a) (.int .i64 e) O A := ⟨h.here, .inr ⟨bb, vo, va, rfl, h.buf⟩⟩

/-- A block that is no row of bytes and not the buffer's lies on behind Add. -/
theorem touch_same {W W' : World} {base bb : Nat} {vo va : Value} {O A : List UInt8} (hb : Ab.BufAt W base bb vo va O A) (ht : Ab.Touch W W' bb va.ownBlock) {k : Nat} {cs : Array Value} {t : Nat} (hk : W.heap[k]? = some (.cells cs t (0, 0))) (h1 : t ≠ 140) (h2 : t ≠ 5) : W'.heap[k]? = some (.cells cs t (0, 0)) := by
  refine (ht.block k (sh_lt hk) (fun e => ?_) (fun e => ?_)).trans hk
  · subst e
    rw [hb.here] at hk
    cases hk
    exact h1 rfl
  · exact Ab.own_ne hb.added hk h2 e

theorem Pw.touch {w W W' : World} {base sb bb g6 g7 : Nat} {vo va va' va0 : Value} {O A A' : List UInt8} {T U : Tr} {x y a : Option Addr} {e : Int} (h : Pw w W base sb bb g6 g7 vo va va0 O A T U x y a e) (hv : va = va0) (hb : Ab.BufAt W' base bb vo va' O A') (ht : Ab.Touch W W' bb va.ownBlock) (ho : va'.ownBlock = va.ownBlock ∨ ∃ k, va'.ownBlock = some k ∧ W.heap.size ≤ k) :
    Pw w W' base sb bb g6 g7 vo va' va0 O A' T U x y a e := by
  subst hv
  have N : Nods W W' := fun b cs hb' => touch_same h.buf ht hb' (by decide) (by decide)
  refine ⟨⟨ht.os.trans h.chg.os, ht.tape.trans h.chg.tape, ht.output.trans h.chg.output, Nat.le_trans h.chg.size ht.size, fun k hk h1 h2 h3 => (ht.block k (Nat.lt_of_lt_of_le hk h.chg.size) h2 h3).trans (h.chg.block k hk h1 h2 h3)⟩, touch_same h.buf ht h.here (by decide) (by decide), hb, ?_, touch_same h.buf ht h.b6 (by decide) (by decide), touch_same h.buf ht h.b7 (by decide) (by decide), h.l6, h.l7, h.n67, N.at h.tx, N.at h.uy⟩
  rcases ho with ho | ⟨k, h1, h2⟩
  · exact .inl ho
  · exact .inr ⟨k, h1, Nat.le_trans h.chg.size h2⟩

theorem Pw.cells {w W : World} {base sb bb g6 g7 : Nat} {vo va va0 : Value} {O A : List UInt8} {T U : Tr} {x y a : Option Addr} {e : Int} (h : Pw w W base sb bb g6 g7 vo va va0 O A T U x y a e) :
    W.cell? ⟨g6, 0, none⟩ = some (.pointer x) ∧ W.cell? ⟨sb, 0, none⟩ = some (.pointer (some ⟨bb, 0, none⟩)) := ⟨(box_cell h.b6).1, (sh_cells h.here).1⟩

/-- Two boxes' stores, the tree's and the piece's. -/
theorem Pw.set6 {w W : World} {base sb bb g6 g7 : Nat} {vo va va0 : Value} {O A : List UInt8} {T U T' : Tr} {x x' y a : Option Addr} {e : Int} (h : Pw w W base sb bb g6 g7 vo va va0 O A T U x y a e) (hT : At W T' x') : Pw w (W.setCell ⟨g6, 0, none⟩ (.pointer x')) base sb bb g6 g7 vo va va0 O A T' U x' y a e := by
  have N : ∀ (k : Nat) (cs : Array Value) (t : Nat), W.heap[k]? = some (Obj.cells cs t (0, 0)) → t ≠ 26 → (W.setCell ⟨g6, 0, none⟩ (.pointer x')).heap[k]? = some (.cells cs t (0, 0)) := fun k cs t hk ht => (Below.heap_setCell _ _ _ _ (fun e => by change k = g6 at e; subst e; rw [h.b6] at hk; cases hk; exact ht rfl)).trans hk
  have NN : Nods W (W.setCell ⟨g6, 0, none⟩ (.pointer x')) := fun b cs hb => N b cs _ hb (by decide)
  exact ⟨h.chg.set (.inr h.l6) _ _, N _ _ _ h.here (by decide), h.buf.grown (Ab.grown_setCell _ _ _) (fun e => by have := (Option.some.inj e); change bb = g6 at this; subst this; have := h.b6; rw [h.buf.here] at this; cases this)
      (by
        cases hv : vo.ownBlock with
        | none => exact .inl rfl
        | some k => exact .inr fun e => Ab.own_ne h.buf.orig h.b6 (by decide) (by rw [hv, e]))
      (by
        cases hv : va.ownBlock with
        | none => exact .inl rfl
        | some k => exact .inr fun e => Ab.own_ne h.buf.added h.b6 (by decide) (by rw [hv, e])), h.own, box_set h.b6 _, (Below.heap_setCell _ _ _ _ (fun e => h.n67 e.symm)).trans h.b7, h.l6, h.l7, h.n67, NN.at hT, NN.at h.uy⟩

end Go.Proofs.Ytpifjghhlcjedaa
