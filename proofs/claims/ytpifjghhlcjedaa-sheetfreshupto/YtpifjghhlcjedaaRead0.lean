/- Reading a text in pieces: the loop's state and what a round comes to. -/
import Derived.Test.YtpifjghhlcjedaaPutp
import Derived.Test.YtpifjghhlcjedaaPcs
namespace Go.Proofs.Ytpifjghhlcjedaa
open Go.RowKit

/-- What has been read when the pieces pre have come, from the place i0 of the first. -/
def got (O A : List UInt8) (i0 : Nat) (pre : List Pc) : List UInt8 := (txt O A pre).drop i0

/-- Where the next piece is read from. -/
def skip (i0 : Nat) (pre : List Pc) : Nat := if pre = [] then i0 else 0

theorem got_snoc (O A : List UInt8) (i0 : Nat) (pre : List Pc) (x : Pc) (h : pre ≠ [] → i0 ≤ (txt O A pre).length) : got O A i0 (pre ++ [x]) = got O A i0 pre ++ (pcs O A x).drop (skip i0 pre) := by
  unfold got skip
  rw [txt_append, txt_cons, txt_nil, List.append_nil]
  by_cases hp : pre = []
  · subst hp; simp [txt_nil]
  · rw [if_neg hp, List.drop_zero, List.drop_append_of_le_length (h hp)]

/-- The five boxes and the row of a reading under way. -/
structure RdI (w : World) (lo g8 g10 gT : Nat) (vs : Value) (x y : Int) (n : Nat) (k : Nat) (ins : Int) (B : List UInt8) (W : World) : Prop where
  below : Below w.heap.size w W
  b0 : W.heap[w.heap.size]? = some (.cells #[vs] 63 (0, 0))
  b1 : W.heap[w.heap.size + 1]? = some (.cells #[.int .i64 x] 3 (0, 0))
  b2 : W.heap[w.heap.size + 1 + 1]? = some (.cells #[.int .i64 y] 3 (0, 0))
  b8 : W.heap[g8]? = some (.cells #[.int .i64 ins] 3 (0, 0))
  b10 : W.heap[g10]? = some (.cells #[.slice (some ⟨gT, 0, none⟩) k n] 61 (0, 0))
  row : W.ownsRow w.heap.size 5 1 (.slice (some ⟨gT, 0, none⟩) k n) k (Ab.bv B)
  len : B.length = k
  l8 : w.heap.size + 2 < g8
  u8 : g8 < lo
  u10 : g10 < lo
  uT : gT < lo
  l10 : w.heap.size ≤ g10
  lT : w.heap.size ≤ gT

theorem RdI.stab {w : World} {lo hi g8 g10 gT : Nat} {vs : Value} {x y : Int} {n k : Nat} {ins : Int} {B : List UInt8} {W W' : World} (h : RdI w lo g8 g10 gT vs x y n k ins B W) (hk : Kept lo hi W W') : RdI w lo g8 g10 gT vs x y n k ins B W' := by
  have e := h.u8
  have e2 := h.l8
  refine ⟨h.below.trans ⟨hk.os, hk.tape, hk.output, hk.size, fun j hj => hk.block j (by have := h.below.size; omega) (by omega)⟩, (hk.block _ (sh_lt h.b0) (by omega)).trans h.b0, (hk.block _ (sh_lt h.b1) (by omega)).trans h.b1, (hk.block _ (sh_lt h.b2) (by omega)).trans h.b2,
    (hk.block _ (sh_lt h.b8) (.inl h.u8)).trans h.b8, (hk.block _ (sh_lt h.b10) (.inl h.u10)).trans h.b10, own_same h.row fun j e hj => hk.block j hj (.inl ?_), h.len, h.l8, h.u8, h.u10, h.uT, h.l10, h.lT⟩
  have e3 := h.uT
  cases e
  exact e3

theorem RdI.cells {w : World} {lo g8 g10 gT : Nat} {vs : Value} {x y : Int} {n k : Nat} {ins : Int} {B : List UInt8} {W : World} (h : RdI w lo g8 g10 gT vs x y n k ins B W) :
    (W.cell? ⟨w.heap.size, 0, none⟩ = some vs ∧ W.cell? ⟨w.heap.size + 1, 0, none⟩ = some (.int .i64 x) ∧ W.cell? ⟨w.heap.size + 1 + 1, 0, none⟩ = some (.int .i64 y)) ∧ (W.cell? ⟨g8, 0, none⟩ = some (.int .i64 ins) ∧ W.frozen? ⟨g8, 0, none⟩ = false) ∧ (W.cell? ⟨g10, 0, none⟩ = some (.slice (some ⟨gT, 0, none⟩) k n) ∧ W.frozen? ⟨g10, 0, none⟩ = false) :=
  ⟨⟨(box_cell h.b0).1, (box_cell h.b1).1, (box_cell h.b2).1⟩, box_cell h.b8, box_cell h.b10⟩

/-- A call, or a new block. -/
theorem RdI.call {w : World} {lo g8 g10 gT : Nat} {vs : Value} {x y : Int} {n k : Nat} {ins : Int} {B : List UInt8} {W W' : World} (h : RdI w lo g8 g10 gT vs x y n k ins B W) (hb : Below W.heap.size W W') : RdI w lo g8 g10 gT vs x y n k ins B W' :=
  h.stab (hi := lo) (Kept.of_below hb (Nat.le_refl _))

theorem RdI.wide {w : World} {lo lo' g8 g10 gT : Nat} {vs : Value} {x y : Int} {n k : Nat} {ins : Int} {B : List UInt8} {W : World} (h : RdI w lo g8 g10 gT vs x y n k ins B W) (hl : lo ≤ lo') : RdI w lo' g8 g10 gT vs x y n k ins B W :=
  ⟨h.below, h.b0, h.b1, h.b2, h.b8, h.b10, h.row, h.len, h.l8, Nat.lt_of_lt_of_le h.u8 hl, Nat.lt_of_lt_of_le h.u10 hl, Nat.lt_of_lt_of_le h.uT hl, h.l10, h.lT⟩

/-- The place in the next piece is set to 0. -/
theorem RdI.zero {w : World} {lo g8 g10 gT : Nat} {vs : Value} {x y : Int} {n k : Nat} {ins : Int} {B : List UInt8} {W : World} (h : RdI w lo g8 g10 gT vs x y n k ins B W) (j : Int) : RdI w lo g8 g10 gT vs x y n k j B (W.setCell ⟨g8, 0, none⟩ (.int .i64 j)) := by
  have e2 := h.l8
  have ne : ∀ k, k ≠ g8 → (W.setCell ⟨g8, 0, none⟩ (.int .i64 j)).heap[k]? = W.heap[k]? := fun k hk => Below.heap_setCell _ _ _ _ hk
  have n10 : g10 ≠ g8 := fun e => by have a := h.b10; rw [e, h.b8] at a; cases a
  exact ⟨bset h.below (by omega) _ _, (ne _ (by omega)).trans h.b0, (ne _ (by omega)).trans h.b1, (ne _ (by omega)).trans h.b2, box_set h.b8 _, (ne _ n10).trans h.b10,
    own_same h.row fun q e _ => ne q (fun e' => Ab.own_ne h.row h.b8 (by decide) (by rw [e, e'])), h.len, h.l8, h.u8, h.u10, h.uT, h.l10, h.lT⟩

/-- The text grown in its own room, and stored. -/
theorem RdI.more {w : World} {lo g8 g10 gT : Nat} {vs : Value} {x y : Int} {n k m : Nat} {ins : Int} {B C : List UInt8} {W W1 : World} (h : RdI w lo g8 g10 gT vs x y n k ins B W) (hr : W1.ownsRow w.heap.size 5 1 (.slice (some ⟨gT, 0, none⟩) (k + m) n) (k + m) (Ab.bv B ++ Ab.bv C)) (hg : W.grownBy W1 (some gT)) (hC : C.length = m) :
    RdI w lo g8 g10 gT vs x y n (k + m) ins (B ++ C) (W1.setCell ⟨g10, 0, none⟩ (.slice (some ⟨gT, 0, none⟩) (k + m) n)) ∧ ∀ (N : Nat → Prop) (hi : Nat), (∀ k, N k → k ≠ g10 ∧ k ≠ gT) → Rnd N lo hi W (W1.setCell ⟨g10, 0, none⟩ (.slice (some ⟨gT, 0, none⟩) (k + m) n)) := by
  have e2 := h.l8
  have hne : ∀ (q : Nat) (cs : Array Value) (t : Nat), W.heap[q]? = some (Obj.cells cs t (0, 0)) → t ≠ 5 → q ≠ gT := fun q cs t hq ht e => Ab.own_ne h.row hq ht (by rw [e]; rfl)
  have keep : ∀ q, q < W.heap.size → q ≠ gT → W1.heap[q]? = W.heap[q]? := fun q hq hn => hg.block q hq (fun e => hn (Option.some.inj e))
  have ne : ∀ q, q ≠ g10 → (W1.setCell ⟨g10, 0, none⟩ (.slice (some ⟨gT, 0, none⟩) (k + m) n)).heap[q]? = W1.heap[q]? := fun q hq => Below.heap_setCell _ _ _ _ hq
  have n10 : ∀ (q : Nat) (cs : Array Value) (t : Nat), W.heap[q]? = some (Obj.cells cs t (0, 0)) → t ≠ 61 → q ≠ g10 := fun q cs t hq ht e => by subst e; rw [h.b10] at hq; cases hq; exact ht rfl
  have both : ∀ (q : Nat) (cs : Array Value) (t : Nat), W.heap[q]? = some (Obj.cells cs t (0, 0)) → t ≠ 5 → t ≠ 61 → (W1.setCell ⟨g10, 0, none⟩ (.slice (some ⟨gT, 0, none⟩) (k + m) n)).heap[q]? = some (.cells cs t (0, 0)) := fun q cs t hq h1 h2 =>
    ((ne q (n10 q cs t hq h2)).trans (keep q (sh_lt hq) (hne q cs t hq h1))).trans hq
  have hs2 : (W1.setCell ⟨g10, 0, none⟩ (.slice (some ⟨gT, 0, none⟩) (k + m) n)).heap.size = W1.heap.size := by show (W1.heap.modify _ _).size = _; rw [Array.size_modify]
  have l10 := h.l10
  have lT := h.lT
  have u10 := h.u10
  have uT := h.uT
  refine ⟨⟨?_, both _ _ _ h.b0 (by decide) (by decide), both _ _ _ h.b1 (by decide) (by decide), both _ _ _ h.b2 (by decide) (by decide), both _ _ _ h.b8 (by decide) (by decide), box_set ((keep _ (sh_lt h.b10) (hne _ _ _ h.b10 (by decide))).trans h.b10) _, ?_, by simp [h.len, hC], h.l8, h.u8, h.u10, h.uT, h.l10, h.lT⟩, fun N hi hN => ⟨?_, fun q hq hr => ?_⟩⟩
  · exact ⟨hg.os.trans h.below.os, hg.tape.trans h.below.tape, hg.output.trans h.below.output, by rw [hs2]; exact Nat.le_trans h.below.size hg.size, fun q hq => ((ne q (by omega)).trans (keep q (by have := h.below.size; omega) (by omega))).trans (h.below.block q hq)⟩
  · rw [Ab.bv_append]
    exact own_same hr fun q e _ => ne q (fun e' => by cases e; exact (hne _ _ _ h.b10 (by decide)) e'.symm)
  · rw [hs2]; exact hg.size
  · have h1 : q ≠ g10 ∧ q ≠ gT := hr.elim (hN q) (fun h => by omega)
    exact (ne q h1.1).trans (keep q hq h1.2)

theorem RdI.cast {w : World} {lo g8 g10 gT : Nat} {vs : Value} {x y : Int} {n k k' : Nat} {ins : Int} {B B' : List UInt8} {W : World} (h : RdI w lo g8 g10 gT vs x y n k ins B W) (hk : k = k') (hB : B = B') : RdI w lo g8 g10 gT vs x y n k' ins B' W := by
  subst hk hB
  exact h

theorem own_some {W : World} {base m : Nat} {ao : Option Addr} {c : Nat} {xs : List Value} (h : W.ownsRow base 5 1 (.slice ao m c) m xs) (hm : 1 ≤ m) : ∃ g, ao = some ⟨g, 0, none⟩ ∧ ∀ j u, xs[j]? = some u → W.cell? ((⟨g, 0, none⟩ : Addr).add j) = some u := by
  rcases h.2 with ⟨_, h0⟩ | ⟨g, cap, cur, e, _⟩
  · omega
  · cases e
    exact ⟨g, rfl, fun j u hu => h.cells rfl j u hu⟩

/-- What a round comes to. -/
theorem round_pure {O A : List UInt8} {i0 n : Nat} {pre L : List Pc} {s : Int} {o len : Nat} {nn : Int} {pp : Pc} (hg : Gds O A L) (hpre : pre ++ [⟨s, o, len, nn⟩] <+: L) (h0 : L[0]? = some pp) (hi : (i0 : Int) < pp.l) (hk : (got O A i0 pre).length < n) :
    ∃ sk m : Nat, skip i0 pre = sk ∧ sk < len ∧ m = min (len - sk) (n - (got O A i0 pre).length) ∧ 1 ≤ m ∧ m ≤ len - sk ∧ (got O A i0 pre).length + m ≤ n ∧ Ab.sndB s o len = true ∧ o + len ≤ (Ab.which s O A).length ∧ len ≤ 2147483647 ∧
      (Ab.cutL s ((o + sk : Nat) : Int) (m : Int) O A).length = m ∧ Ab.sndB s ((o + sk : Nat) : Int) (m : Int) = true ∧ o + sk + m ≤ (Ab.which s O A).length ∧
      ((got O A i0 pre).length + m < n → got O A i0 (pre ++ [⟨s, o, len, nn⟩]) = got O A i0 pre ++ Ab.cutL s ((o + sk : Nat) : Int) (m : Int) O A ∧ skip i0 (pre ++ [⟨s, o, len, nn⟩]) = 0) ∧
      ((got O A i0 pre).length + m = n → got O A i0 pre ++ Ab.cutL s ((o + sk : Nat) : Int) (m : Int) O A = ((txt O A L).drop i0).take n) := by
  have hx : Gd O A ⟨s, o, len, nn⟩ := by
    obtain ⟨r, hr⟩ := hpre
    exact hg _ (by rw [← hr]; simp)
  have hgp : Gds O A pre := fun q hq => by
    obtain ⟨r, hr⟩ := hpre
    exact hg q (by rw [← hr]; simp [hq])
  have hlow : pre ≠ [] → i0 ≤ (txt O A pre).length := fun hne => by
    obtain ⟨q, qs, rfl⟩ := List.exists_cons_of_ne_nil hne
    obtain ⟨r, hr⟩ := hpre
    rw [← hr] at h0
    simp at h0
    subst h0
    have := (hgp q (by simp)).len
    rw [txt_cons, List.length_append]
    omega
  have hsk : skip i0 pre < len := by
    unfold skip
    split
    · rename_i hn
      subst hn
      obtain ⟨r, hr⟩ := hpre
      rw [← hr] at h0
      simp at h0
      subst h0
      simp only at hi
      omega
    · have := hx.pos
      simp only at this
      omega
  have hfit := hx.fit
  simp only [Pc.fit] at hfit
  obtain ⟨o', l', e1, e2, k1, k2, k3⟩ := Ab.hd_parts hx.hold
  simp only at e1 e2 k1 k2
  obtain rfl : o = o' := by omega
  obtain rfl : len = l' := by omega
  obtain ⟨q1, q2, q3, q4⟩ := snd_out k1
  have hm1 : 1 ≤ min (len - skip i0 pre) (n - (got O A i0 pre).length) := by omega
  have ep : pcs O A ⟨s, o, len, nn⟩ = ((Ab.which s O A).drop o).take len := by simp [pcs, Ab.cutL]
  have ec : Ab.cutL s ((o + skip i0 pre : Nat) : Int) ((min (len - skip i0 pre) (n - (got O A i0 pre).length) : Nat) : Int) O A = ((pcs O A ⟨s, o, len, nn⟩).drop (skip i0 pre)).take (min (len - skip i0 pre) (n - (got O A i0 pre).length)) := by
    rw [ep]
    simp only [Ab.cutL, Int.toNat_natCast]
    rw [List.drop_take, List.drop_drop, List.take_take]
    congr 1
    omega
  have es := got_snoc O A i0 pre ⟨s, o, len, nn⟩ hlow
  have el : ((pcs O A ⟨s, o, len, nn⟩).drop (skip i0 pre)).length = len - skip i0 pre := by rw [ep, List.length_drop, List.length_take, List.length_drop]; omega
  refine ⟨skip i0 pre, _, rfl, hsk, rfl, hm1, by omega, by omega, k1, k2, by omega, ?_, snd_true ⟨q1, by omega, by omega, by omega⟩, by omega, fun h => ⟨?_, by simp [skip]⟩, fun h => ?_⟩
  · rw [ec, List.length_take, el]; omega
  · rw [es, ec, List.take_of_length_le (by rw [el]; omega)]
  · rw [ec]
    obtain ⟨r, hr⟩ := hpre
    have e3 : txt O A L = txt O A (pre ++ [⟨s, o, len, nn⟩]) ++ txt O A r := by rw [← hr, txt_append]
    have hle : n ≤ (got O A i0 (pre ++ [⟨s, o, len, nn⟩])).length := by rw [es, List.length_append, el]; omega
    have hi0 : i0 ≤ (txt O A (pre ++ [⟨s, o, len, nn⟩])).length := by
      unfold got at hle
      rw [List.length_drop] at hle
      omega
    rw [e3, List.drop_append_of_le_length hi0]
    show _ = List.take n (got O A i0 (pre ++ [⟨s, o, len, nn⟩]) ++ txt O A r)
    rw [List.take_append_of_le_length hle, es, List.take_append, List.take_of_length_le (Nat.le_of_lt hk), show min (len - skip i0 pre) (n - (got O A i0 pre).length) = n - (got O A i0 pre).length by omega]

end Go.Proofs.Ytpifjghhlcjedaa
