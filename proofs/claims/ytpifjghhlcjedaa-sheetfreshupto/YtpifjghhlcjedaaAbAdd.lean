/- The contract of (*Buffer).Add: the bytes go behind all that was added; a nil buffer takes nothing in. -/
import Derived.Test.YtpifjghhlcjedaaAbRead
import Derived.Maps.AppendAt
import Derived.Laws.AppendOwnNone
namespace Go.Proofs.Ytpifjghhlcjedaa.Ab
open Go.RowKit

set_option maxHeartbeats 400000 in
theorem add_nil (v : Value) (w : World) : Calls Try.prog 106 #[.pointer none, v] w fun e w' => e = .returned (.agg #[.int .i64 0, .int .i64 0, .int .i64 0]) ∧ Below w.heap.size w w' := by
  go_enter Try.func106, Try.ntmps106
  go_wp2
  exact bodyPost_ret (v := .agg #[.int .i64 0, .int .i64 0, .int .i64 0]) (by simp [results, Try.results106, go_sem]) rfl ⟨rfl, bAlloc (Below.refl _ _) _⟩

/-- w' is w but for new blocks, for block b, and for one row. -/
structure Touch (w w' : World) (b : Nat) (row : Option Nat) : Prop where
  os : w'.os = w.os
  tape : w'.tape = w.tape
  output : w'.output = w.output
  size : w.heap.size ≤ w'.heap.size
  block : ∀ k, k < w.heap.size → k ≠ b → some k ≠ row → w'.heap[k]? = w.heap[k]?

theorem SpanAt.grown {W W1 : World} {b : Nat} {s o l : Int} {row : Option Nat} (h : SpanAt W b s o l) (hg : W.grownBy W1 row) (hne : some b ≠ row) : SpanAt W1 b s o l := by
  obtain ⟨hb, h0, h1, h2, f0, f1, f2⟩ := h
  have e := hg.block b hb hne
  have hz := hg.size
  refine ⟨by omega, ?_, ?_, ?_, ?_, ?_, ?_⟩
  · rw [World.cell?_of_block (a := ⟨b, 0, none⟩) e]; exact h0
  · rw [World.cell?_of_block (a := ⟨b, 1, none⟩) e]; exact h1
  · rw [World.cell?_of_block (a := ⟨b, 2, none⟩) e]; exact h2
  · rw [World.frozen?_of_block (a := ⟨b, 0, none⟩) e]; exact f0
  · rw [World.frozen?_of_block (a := ⟨b, 1, none⟩) e]; exact f1
  · rw [World.frozen?_of_block (a := ⟨b, 2, none⟩) e]; exact f2

/-- a row of bytes is no block of another make -/
theorem own_ne {W : World} {base b n : Nat} {v : Value} {xs : List Value} {cs : Array Value} {t : Nat} (h : W.ownsRow base 5 1 v n xs) (hb : W.heap[b]? = some (.cells cs t (0, 0))) (ht : t ≠ 5) : some b ≠ v.ownBlock := by
  rcases h.2 with ⟨rfl, _⟩ | ⟨g, cap, cur, rfl, _, hg, _⟩
  · simp [Value.ownBlock]
  · intro e
    simp [Value.ownBlock] at e
    subst e
    rw [hb] at hg
    simp at hg
    exact ht hg.2

theorem grown_setCell (w : World) (p : Addr) (u : Value) : w.grownBy (w.setCell p u) (some p.block) :=
  ⟨rfl, rfl, rfl, by simp, fun k _ hne => Below.heap_setCell w p u k (fun e => hne (by rw [e]))⟩

theorem row2_set (w : World) (b : Nat) (x y v : Value) (h : w.heap[b]? = some (.cells #[x, y] 140 (0, 0))) : (w.setCell ⟨b, 1, none⟩ v).heap[b]? = some (.cells #[x, v] 140 (0, 0)) := by
  simp [World.setCell, Array.getElem?_modify, h]

theorem row_frozen (w : World) (b j : Nat) (cs : Array Value) (t : Nat) (h : w.heap[b]? = some (.cells cs t (0, 0))) : w.frozen? ⟨b, j, none⟩ = false := by
  simp [World.frozen?, h]

theorem BufAt.grown {W W' : World} {base b : Nat} {vo va : Value} {O A : List UInt8} {row : Option Nat} (h : BufAt W base b vo va O A) (hg : W.grownBy W' row) (h1 : some b ≠ row) (h2 : vo.ownBlock = none ∨ vo.ownBlock ≠ row) (h3 : va.ownBlock = none ∨ va.ownBlock ≠ row) : BufAt W' base b vo va O A :=
  ⟨h.lo, by rw [hg.block b h.lt h1]; exact h.here, h.orig.kept hg h2, h.added.kept hg h3, h.apart⟩

/-- What Add does to the world: the row grew; the new list's value is stored; the answer is laid into a block of its own. -/
theorem add_world {w w1 : World} {b : Nat} {vo va v' : Value} {O A l : List UInt8} {base : Nat} {x0 x1 : Obj} {s o k : Int}
    (hB : BufAt w base b vo va O A) (hown : w1.ownsRow base 5 1 v' (A.length + l.length) (bv A ++ bv l)) (hgrow : ((w.alloc x0).alloc x1).grownBy w1 va.ownBlock)
    (hat : v'.ownBlock = va.ownBlock ∨ v'.ownBlock = some (w.heap.size + 1 + 1)) :
    BufAt ((((w1.setCell ⟨b, 1, none⟩ v').setCell ⟨w.heap.size, 0, none⟩ (.int .i64 s)).setCell ⟨w.heap.size, 1, none⟩ (.int .i64 o)).setCell ⟨w.heap.size, 2, none⟩ (.int .i64 k)) base b vo v' O (A ++ l) ∧
      Touch w ((((w1.setCell ⟨b, 1, none⟩ v').setCell ⟨w.heap.size, 0, none⟩ (.int .i64 s)).setCell ⟨w.heap.size, 1, none⟩ (.int .i64 o)).setCell ⟨w.heap.size, 2, none⟩ (.int .i64 k)) b va.ownBlock ∧
      (v'.ownBlock = va.ownBlock ∨ ∃ k, v'.ownBlock = some k ∧ w.heap.size ≤ k) := by
  have bz := hB.lt
  have hz := hgrow.size
  simp at hz
  have hbb : w1.heap[b]? = some (.cells #[vo, va] 140 (0, 0)) := by
    rw [hgrow.block b (by simp; omega) (own_ne hB.added hB.here (by decide)), Below.heap_alloc _ _ _ (by simp; omega), Below.heap_alloc _ _ _ bz]; exact hB.here
  have h2 := row2_set w1 b vo va v' hbb
  have hor : w1.ownsRow base 5 1 vo O.length (bv O) := by
    refine ((hB.orig.alloc x0).alloc x1).kept hgrow ?_
    exact hB.apart
  have k1 : (w1.setCell ⟨b, 1, none⟩ v').ownsRow base 5 1 v' (A.length + l.length) (bv A ++ bv l) := hown.kept (grown_setCell w1 ⟨b, 1, none⟩ v') (.inr (Ne.symm (own_ne hown hbb (by decide))))
  have k2 : (w1.setCell ⟨b, 1, none⟩ v').ownsRow base 5 1 vo O.length (bv O) := hor.kept (grown_setCell w1 ⟨b, 1, none⟩ v') (.inr (Ne.symm (own_ne hor hbb (by decide))))
  have av : vo.ownBlock = none ∨ vo.ownBlock ≠ v'.ownBlock := by
    rcases hat with e | e
    · rw [e]; exact hB.apart
    · rw [e]
      rcases hv : vo.ownBlock with _ | g
      · exact .inl rfl
      · have := (hB.orig.lt g hv).2
        exact .inr (by simp; omega)
  have b1 : BufAt (w1.setCell ⟨b, 1, none⟩ v') base b vo v' O (A ++ l) := ⟨hB.lo, h2, k2, by rw [bv_append, List.length_append]; exact k1, av⟩
  have n1 : some b ≠ some w.heap.size := by simp; omega
  have n2 : vo.ownBlock = none ∨ vo.ownBlock ≠ some w.heap.size := by
    rcases hv : vo.ownBlock with _ | g
    · exact .inl rfl
    · have := (hB.orig.lt g hv).2
      exact .inr (by simp; omega)
  have n3 : v'.ownBlock = none ∨ v'.ownBlock ≠ some w.heap.size := by
    rcases hat with e | e
    · rw [e]
      rcases hv : va.ownBlock with _ | g
      · exact .inl rfl
      · have := (hB.added.lt g hv).2
        exact .inr (by simp; omega)
    · rw [e]; exact .inr (by simp; omega)
  refine ⟨((b1.grown (grown_setCell _ ⟨w.heap.size, 0, none⟩ _) n1 n2 n3).grown (grown_setCell _ ⟨w.heap.size, 1, none⟩ _) n1 n2 n3).grown (grown_setCell _ ⟨w.heap.size, 2, none⟩ _) n1 n2 n3, ⟨hgrow.os, hgrow.tape, hgrow.output, by simp; omega, ?_⟩, ?_⟩
  · intro k hk hkb hkr
    rw [Below.heap_setCell _ _ _ _ (by simp; omega), Below.heap_setCell _ _ _ _ (by simp; omega), Below.heap_setCell _ _ _ _ (by simp; omega), Below.heap_setCell _ _ _ _ (by simpa using hkb)]
    rw [hgrow.block k (by simp; omega) hkr, Below.heap_alloc _ _ _ (by simp; omega), Below.heap_alloc _ _ _ hk]
  · rcases hat with e | e
    · exact .inl e
    · exact .inr ⟨_, e, by omega⟩

set_option maxHeartbeats 800000 in
theorem add_some (b : Nat) (vo va : Value) (O A : List UInt8) (base : Nat) (a : Addr) (c : Nat) (l : List UInt8) (w : World) (hB : Hid (BufAt w base b vo va O A)) (hbig : A.length + l.length ≤ 140737488355328)
    (hc : Hid (∀ j u, (bv l)[j]? = some u → w.cell? (a.add j) = some u)) :
    Calls Try.prog 106 #[.pointer (some ⟨b, 0, none⟩), .slice (some a) l.length c] w fun e w' => ∃ va', e = .returned (.agg #[.int .i64 1, .int .i64 (A.length : Int), .int .i64 (l.length : Int)]) ∧ BufAt w' base b vo va' O (A ++ l) ∧ Touch w w' b va.ownBlock ∧ (va'.ownBlock = va.ownBlock ∨ ∃ k, va'.ownBlock = some k ∧ w.heap.size ≤ k) := by
  obtain ⟨i0, hi, hz0, hz1, hz2⟩ := info_parts info5
  have c1 := hB.out.cell1
  have bz := hB.out.lt
  obtain ⟨a1, n1, rfl⟩ := own_shape hB.out.added
  go_enter Try.func106, Try.ntmps106
  go_wp2_with (at_builtin; refine wpList_append_own_at _ rfl _ _ 61 rfl base 5 i0 (.int .u8 0) 1 1 Try.underlying61 hi hz0 hz1 hz2 rfl (by decide) _ _ _ rfl ((hB.out.added.alloc _).alloc _) a l.length c (bv l) rfl ?qc1 ?qc2 ?qc3 ?qc4 ?qc5 ?qc6 ?_)
  case qc1 => simp [bv_length]
  case qc2 => exact fun j u hj => Lib.cell?_alloc_marked _ (Lib.cell?_alloc_marked _ (hc.out j u hj))
  case qc3 => exact bv_one l
  case qc4 => unfold maxLen; omega
  case qc5 => omega
  case qc6 => have := hB.out.lo; simp; omega
  intro v' w1 hown hgrow _ hat
  have hz := hgrow.size
  simp at hz hat
  have FIN : Hid (∀ s o k : Int, _ ∧ _ ∧ _) := fun s o k => add_world (s := s) (o := o) (k := k) hB.out hown hgrow hat
  have r : ∀ k, (Value.slice a1 A.length n1).ownBlock = some k → k < w.heap.size := fun k hk => (hB.out.added.lt k hk).2
  have Z1 := ((SpanAt.new w 0 0 0).alloc _).grown hgrow (fun e => absurd (r _ e.symm) (by omega))
  have P1 := (by simpa using SpanAt.new (w.alloc _) 1 A.length l.length : SpanAt ((w.alloc _).alloc _) (w.heap.size + 1) _ _ _).grown hgrow (fun e => absurd (r _ e.symm) (by omega))
  have hbb : w1.heap[b]? = some (.cells #[vo, .slice a1 A.length n1] 140 (0, 0)) := by
    rw [hgrow.block b (by simp; omega) (own_ne hB.out.added hB.out.here (by decide)), Below.heap_alloc _ _ _ (by simp; omega), Below.heap_alloc _ _ _ bz]; exact hB.out.here
  have cb : w1.cell? ⟨b, 1, none⟩ = some (.slice a1 A.length n1) := by rw [cell_of_row w1 b 1 _ 140 (0, 0) hbb]; rfl
  have fb := row_frozen w1 b 1 _ 140 hbb
  obtain ⟨ao', cap', rfl⟩ := own_shape hown
  clear hown hgrow hat hbb r c1 hi hz0 hz1 hz2
  obtain ⟨z1, z2, z3, z4, z5, z6, z7⟩ := id Z1
  obtain ⟨p1, p2, p3, p4, -⟩ := id P1
  go_wp2
  refine bodyPost_ret (v := .agg #[.int .i64 1, .int .i64 (A.length : Int), .int .i64 (l.length : Int)]) (by simp [results, Try.results106, go_sem, z2, z3, z4]) rfl ⟨_, rfl, FIN.out _ _ _⟩

theorem add_same {w : World} {b : Nat} {vo va : Value} {O A : List UInt8} {base : Nat} (x0 x1 : Obj) (hB : BufAt w base b vo va O A) :
    BufAt (((w.setCell ⟨b, 1, none⟩ va).alloc x0).alloc x1) base b vo va O (A ++ []) ∧ Touch w (((w.setCell ⟨b, 1, none⟩ va).alloc x0).alloc x1) b va.ownBlock := by
  have bz := hB.lt
  have b1 : BufAt (w.setCell ⟨b, 1, none⟩ va) base b vo va O A :=
    ⟨hB.lo, row2_set w b vo va va hB.here, hB.orig.kept (grown_setCell w ⟨b, 1, none⟩ va) (.inr (Ne.symm (own_ne hB.orig hB.here (by decide)))), hB.added.kept (grown_setCell w ⟨b, 1, none⟩ va) (.inr (Ne.symm (own_ne hB.added hB.here (by decide)))), hB.apart⟩
  refine ⟨by rw [List.append_nil]; exact (b1.alloc _).alloc _, ⟨rfl, rfl, rfl, by simp; omega, ?_⟩⟩
  intro k hk hkb _
  rw [Below.heap_alloc _ _ _ (by simp; omega), Below.heap_alloc _ _ _ (by simpa using hk), Below.heap_setCell _ _ _ _ (by simpa using hkb)]

set_option maxHeartbeats 800000 in
theorem add_none (b : Nat) (vo va : Value) (O A : List UInt8) (base : Nat) (w : World) (hB : Hid (BufAt w base b vo va O A)) :
    Calls Try.prog 106 #[.pointer (some ⟨b, 0, none⟩), .slice none 0 0] w fun e w' => ∃ va', e = .returned (.agg #[.int .i64 1, .int .i64 (A.length : Int), .int .i64 0]) ∧ BufAt w' base b vo va' O (A ++ []) ∧ Touch w w' b va.ownBlock ∧ (va'.ownBlock = va.ownBlock ∨ ∃ k, va'.ownBlock = some k ∧ w.heap.size ≤ k) := by
  obtain ⟨i0, hi, hz0, hz1, hz2⟩ := info_parts info5
  have c1 := hB.out.cell1
  have bz := hB.out.lt
  have fb := row_frozen w b 1 _ 140 hB.out.here
  have hm := own_le hB.out.added
  unfold maxLen at hm
  obtain ⟨a1, n1, rfl⟩ := own_shape hB.out.added
  go_enter Try.func106, Try.ntmps106
  go_wp2_with (at_builtin; refine wpList_append_own_none rfl _ _ 61 rfl base 5 i0 1 Try.underlying61 hi _ _ _ rfl ((hB.out.added.alloc _).alloc _) rfl ?_)
  refine bodyPost_ret (v := .agg #[.int .i64 1, .int .i64 (A.length : Int), .int .i64 0]) (by simp [results, Try.results106, go_sem]) rfl ⟨_, rfl, (add_same _ _ hB.out).1, (add_same _ _ hB.out).2, .inl rfl⟩

theorem add_any (v : Value) (b : Nat) (vo va : Value) (O A : List UInt8) (base : Nat) (l : List UInt8) (w : World) (hB : BufAt w base b vo va O A) (hbig : A.length + l.length ≤ 140737488355328) (hv : Rd w v l) :
    Calls Try.prog 106 #[.pointer (some ⟨b, 0, none⟩), v] w fun e w' => ∃ va', e = .returned (.agg #[.int .i64 1, .int .i64 (A.length : Int), .int .i64 (l.length : Int)]) ∧ BufAt w' base b vo va' O (A ++ l) ∧ Touch w w' b va.ownBlock ∧ (va'.ownBlock = va.ownBlock ∨ ∃ k, va'.ownBlock = some k ∧ w.heap.size ≤ k) := by
  rcases hv with ⟨rfl, rfl⟩ | ⟨a, c, rfl, hc⟩
  · exact add_none b vo va O A base w hB
  · exact add_some b vo va O A base a c l w hB hbig hc
end Go.Proofs.Ytpifjghhlcjedaa.Ab
