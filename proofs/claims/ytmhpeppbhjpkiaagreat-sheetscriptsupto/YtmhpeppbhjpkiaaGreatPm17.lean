/- Pieces of a sheet: the spans of its tree's pieces, in order, in new memory. -/
import Derived.Test.YtmhpeppbhjpkiaaGreatPm13
import Derived.Maps.AppendAt
import Derived.RangeFuncBox
import Derived.Test.YtmhpeppbhjpkiaaGreatPm16
import Derived.Deep.CutRange
import Derived.Test.YtmhpeppbhjpkiaaGreatPm14
namespace Go.Proofs.YtmhpeppbhjpkiaaGreat
open Go.RowKit Go.Shelf
attribute [local go_sem] Oper.semAt_some

def spc (p : Pc) : List Value := [.int .i64 p.s, .int .i64 p.o, .int .i64 p.l]
/-- The cells of the spans of pieces. -/
def spcs (L : List Pc) : List Value := L.flatMap spc
theorem spcs_length (L : List Pc) : (spcs L).length = L.length * 3 := by
  induction L with
  | nil => rfl
  | cons p L ih => simp [spcs, spc] at ih ⊢; omega
theorem spcs_snoc (L : List Pc) (p : Pc) : spcs (L ++ [p]) = spcs L ++ spc p := by simp [spcs]

theorem infoSp : (Tryz.prog.info? 57).map (fun i => (i.zero, i.size, i.bytes)) = some (some (.agg #[.int .i64 0, .int .i64 0, .int .i64 0]), 3, 24) := by kernel_rfl

theorem own_ge {A : World} {base e size n : Nat} {v : Value} {xs : List Value} (h : A.ownsRow base e size v n xs) {k : Nat} (hk : v.ownBlock = some k) : base ≤ k := by
  rcases h.2 with ⟨rfl, _⟩ | ⟨g, cap, cur, rfl, e2, _⟩
  · cases hk
  · simp [Value.ownBlock] at hk
    omega

theorem cell_three (w : World) (x y z : Value) (t : TypeId) : ∀ j u, [x, y, z][j]? = some u → (w.alloc (.cells #[x, y, z] t)).cell? ((⟨w.heap.size, 0, none⟩ : Addr).add j) = some u := by
  intro j u hj
  have hn := World.alloc_heap_new w (.cells #[x, y, z] t)
  have e : (w.alloc (.cells #[x, y, z] t)).cell? ((⟨w.heap.size, 0, none⟩ : Addr).add j) = #[x, y, z][j]? := by
    have ea : (⟨w.heap.size, 0, none⟩ : Addr).add j = ⟨w.heap.size, j, none⟩ := by unfold Addr.add; split <;> simp_all
    rw [ea]
    unfold World.cell?
    simp only [hn]
    simp
  rw [e]
  simpa using hj

/-- A round that appends to a list of its own whose variable is boxed at B. -/
theorem ring_append {n₀ lo hi B k m : Nat} {t e size : Nat} {W w3 : World} {tmp : Obj} {v v' : Value} {xs ys : List Value} (hv : W.heap[B]? = some (.cells #[v] t (0, 0))) (h0 : n₀ ≤ B) (h1 : B < lo) (h2 : lo ≤ hi)
    (hrow : W.ownsRow hi e size v k xs) (hown : w3.ownsRow hi e size v' m ys) (hg : (W.alloc tmp).grownBy w3 v.ownBlock) :
    Rnd (· < n₀) lo hi W (w3.setCell ⟨B, 0, none⟩ v') ∧ (w3.setCell ⟨B, 0, none⟩ v').heap[B]? = some (.cells #[v'] t (0, 0)) ∧ (w3.setCell ⟨B, 0, none⟩ v').ownsRow hi e size v' m ys ∧ Below n₀ W (w3.setCell ⟨B, 0, none⟩ v') := by
  have hlt := sh_lt hv
  have hsz : W.heap.size ≤ w3.heap.size := by have := hg.size; simp at this; omega
  have hkeep : ∀ k, k < W.heap.size → k < hi → w3.heap[k]? = W.heap[k]? := fun k hk hh =>
    (hg.block k (by simp; omega) (fun e => by have := own_ge hrow e.symm; omega)).trans (Below.heap_alloc W _ k hk)
  have hset : ∀ k, k ≠ B → (w3.setCell ⟨B, 0, none⟩ v').heap[k]? = w3.heap[k]? := fun k hk => Below.heap_setCell _ _ _ _ hk
  have hs2 : (w3.setCell ⟨B, 0, none⟩ v').heap.size = w3.heap.size := by show (w3.heap.modify _ _).size = _; rw [Array.size_modify]
  refine ⟨⟨by omega, fun k hk hr => (hset k (by omega)).trans (hkeep k hk (by omega))⟩, box_set ((hkeep B hlt (by omega)).trans hv) _, own_same hown fun k e hk => hset k (by have := own_ge hown e; omega), ?_⟩
  exact ⟨hg.os, hg.tape, hg.output, by omega, fun k hk => (hset k (by omega)).trans (hkeep k (by omega) (by omega))⟩

/-- Between two rounds: the list so far. -/
def PcI (w : World) (lo hi : Nat) (pre : List Pc) (W : World) : Prop :=
  (∃ v, W.heap[w.heap.size]? = some (.cells #[v] 45 (0, 0)) ∧ W.ownsRow hi 57 3 v pre.length (spcs pre)) ∧ Below w.heap.size w W ∧ w.heap.size < lo

theorem PcI.stab (w : World) (lo hi : Nat) : Stab lo hi (PcI w lo hi) := by
  rintro pre A B ⟨⟨v, h1, h2⟩, h4, h5⟩ hk
  have hs := sh_lt h1
  refine ⟨⟨v, (hk.block _ hs (.inl h5)).trans h1, ?_⟩, h4.trans ⟨hk.os, hk.tape, hk.output, hk.size, fun k hk' => hk.block k (by omega) (by omega)⟩, h5⟩
  exact own_same h2 fun k e hlt => hk.block k hlt (.inr (own_ge h2 e))

set_option maxRecDepth 100000 in
set_option maxHeartbeats 2000000 in
theorem Pieces_any (p a : Option Addr) (n : Int) (t : Tr) (w : World) (h : Hid (ShT w p a n)) (ht : Hid (At w t a)) (hz : t.size ≤ 1048576) :
    Calls Tryz.prog 15 #[.pointer p] w fun e w' => ∃ ao cap, e = .returned (.slice ao t.size cap) ∧ w'.ownsRow w.heap.size 57 3 (.slice ao t.size cap) t.size (spcs t.list) ∧ Below w.heap.size w w' := by
  refine (callsIn_wide (n := 9)).1 ?_
  refine callsIn_of_wp_marks Tryz.func15 rfl trivial ?_ rfl
  simp only [Tryz.ntmps15, List.size_toArray, List.length_cons, List.length_nil, Nat.reduceAdd, Nat.reduceSub, Array.replicate_succ, Array.replicate_zero, List.push_toArray, List.append_toArray, List.nil_append, List.cons_append]
  gi_wp2
  refine ⟨trivial, ?_⟩
  have hb0 : Below w.heap.size w (w.alloc (.cells #[.slice none 0 0] 45)) := bAlloc (Below.refl _ _) _
  refine (callsIn_wide.2 (shTree_any p a n _ (h.out.keep hb0))).mono ?_
  rintro e w1 ⟨rfl, hb1⟩
  have hw1 := hb0.trans (hb1.mono hb0.size)
  have hbox : w1.heap[w.heap.size]? = some (.cells #[.slice none 0 0] 45 (0, 0)) := (hb1.block _ (by simp)).trans (World.alloc_heap_new w _)
  have hlt1 := sh_lt hbox
  gi_wp2
  refine ⟨trivial, ?_⟩
  refine (callsIn_wide.2 (all_any a w1)).mono ?_
  rintro e w2 ⟨rfl, hw2⟩
  have hsz2 : w1.heap.size < w2.heap.size := by rw [hw2]; simp
  have hb2 : Below w.heap.size w w2 := by rw [hw2]; exact bAlloc hw1 _
  have hbox2 : w2.heap[w.heap.size]? = some (.cells #[.slice none 0 0] 45 (0, 0)) := by rw [hw2]; exact (Below.heap_alloc _ _ _ hlt1).trans hbox
  have hallbox : w2.heap[w1.heap.size]? = some (.cells #[.pointer a] 53 (0, 0)) := by rw [hw2]; exact World.alloc_heap_new _ _
  clear hw2
  gi_wp2
  refine wpIn_ring (F := Fence.wide) rfl rfl rfl trivial (enters_of Tryz.func80 (by kernel_rfl) rfl) (all_seq (· < w.heap.size) w t a w1.heap.size w2 ht.out (fun b cs h => sh_lt h) (fun k hk _ => hb2.block k hk) hb2.size hallbox hz) (Below.refl _ _) (fun k hk => Nat.lt_of_lt_of_le hk hb2.size) (fun _ _ => rfl)
    (PcI w w2.heap.size (w2.heap.size + 2 + 2)) (fun _ _ _ => False) (PcI.stab _ _ _) (fun _ _ _ _ h _ => h) ?h0
    (fun pre x a' W => ∃ Bx, W.heap[Bx]? = some (.cells #[.int .i64 x.s, .int .i64 x.o, .int .i64 x.l, .int .i64 x.n] 59 (0, 0)) ∧ w2.heap.size + 4 ≤ Bx ∧ a' = { tmps := #[.pointer p, undef, .slice none 0 0, .pointer (some ⟨w.heap.size, 0, none⟩), undef, .pointer (some ⟨Bx, 0, none⟩), .pointer p, .agg #[.pointer a], .func (.func 80) #[] #[.pointer (some ⟨w1.heap.size, 0, none⟩)], .int .i64 (pre.length : Int), x.v, undef, undef, undef, undef, undef, undef], defers := [] })
    ?hAx ?assign ?body ?done (fun _ _ _ _ h _ => h.elim)
  case h0 =>
    exact ⟨⟨_, hbox2, World.ownsRow_nil _ _ _ _⟩, hb2, by omega⟩
  case hAx =>
    rintro pre x a' ⟨⟩ A B ⟨Bx, h1, h2, h3⟩ hk
    exact ⟨Bx, (hk.block _ (sh_lt h1) (by omega)).trans h1, h2, h3⟩
  case assign =>
    rintro l pre ⟨s, o, len, nn⟩ W K hi hbig hpre hK
    simp only [Pc.v] at hK ⊢
    have HK := hid hK
    clear hK
    gi_wp2
    refine HK.out _ _ ?_ (PcI.stab _ _ _ _ _ _ hi (Kept.alloc _ _ _ _)) ⟨W.heap.size, World.alloc_heap_new _ _, by omega, rfl⟩
    exact Rnd.alloc _ _ _ _ _
  case body =>
    rintro l pre ⟨s, o, len, nn⟩ a' W rfl ⟨r, hr⟩ ⟨⟨v, hv, hrow⟩, hB, hlo⟩ hbig ⟨Bx, hx, hBx, rfl⟩ hpre
    obtain ⟨d0, d1, d2, d3⟩ := four_cells hx
    obtain ⟨hc, hf⟩ := box_cell hv
    have hsz := sh_lt hv
    have hplen : pre.length + 1 ≤ 1048576 := by have := hpre.length_le; simp at this; have := t.size_list; omega
    obtain ⟨i0, hi, hz0, hz1, hz2⟩ := info_parts infoSp
    have hne : some w.heap.size ≠ v.ownBlock := fun e => by have := own_ge hrow e.symm; omega
    have HR := hid hrow
    have HV := hid hv
    clear hrow hv hx hr
    gi_wp2_with (gi_at_builtin; refine wpListIn_append_own _ rfl _ _ 45 rfl (w2.heap.size + 2 + 2) 57 i0 (.agg #[.int .i64 0, .int .i64 0, .int .i64 0]) 3 24 Tryz.underlying45 hi hz0 hz1 hz2 rfl (by decide) _ _ _ rfl (HR.out.alloc _) ⟨W.heap.size, 0, none⟩ 1 1 [.int .i64 s, .int .i64 o, .int .i64 len] rfl rfl (cell_three _ _ _ _ _) (by simp [Value.oneCell']) (by simp [maxLen]; omega) (by omega) (by simp; omega) ?_; intro v' w3 hown' hgrow _; obtain ⟨g', cap', rfl⟩ := ownsRow_succ hown'; have hb3 := (hgrow.block w.heap.size (by simp; omega) hne).trans ((Below.heap_alloc W _ _ hsz).trans HV.out); obtain ⟨hc3, hf3⟩ := box_cell hb3)
    obtain ⟨r1, r2, r3, r4⟩ := ring_append HV.out (Nat.le_refl _) hlo (by omega) HR.out hown' hgrow
    exact ⟨r1, ⟨⟨_, r2, by rw [spcs_snoc]; simpa [spc] using r3⟩, hB.trans r4, hlo⟩⟩
  case done =>
    rintro W ⟨⟨v, hv, hrow⟩, hB, hlo⟩ hD
    obtain ⟨hc, hf⟩ := box_cell hv
    gi_wp2
    refine ⟨by simp, .inl ⟨_, _, rfl, run_takeDeferred hD, ?_⟩⟩
    refine ⟨_, results_tmp rfl _ _ _, ?_⟩
    obtain ⟨ao, cap, rfl⟩ := own_shape hrow
    rw [t.size_list] at hrow
    refine ⟨ao, cap, by rw [t.size_list]; rfl, ?_, ?_⟩
    · exact Ab.own_lower (own_same hrow fun k e _ => World.putObj_heap_other (by have := own_ge hrow e; omega)) (by omega)
    · exact hB.trans ⟨rfl, rfl, rfl, by simp, fun k hk => World.putObj_heap_other (by omega)⟩

end Go.Proofs.YtmhpeppbhjpkiaaGreat

/- The law's same, sameSpans and place. -/
namespace Go.Proofs.YtmhpeppbhjpkiaaGreat
open Go.RowKit

theorem spcs_at {L : List Pc} {m : Nat} {p : Pc} (h : L[m]? = some p) (i : Nat) (hi : i < 3) : (spcs L)[m * 3 + i]? = (spc p)[i]? := by
  have hlt := (List.getElem?_eq_some_iff.1 h).1
  have e : L = L.take m ++ p :: L.drop (m + 1) := by
    conv => lhs; rw [← List.take_append_drop m L]
    rw [List.drop_eq_getElem_cons hlt]
    obtain ⟨_, e⟩ := List.getElem?_eq_some_iff.1 h
    rw [e]
  have l1 : (spcs (L.take m)).length = m * 3 := by rw [spcs_length, List.length_take]; omega
  conv => lhs; rw [e]
  unfold spcs at l1 ⊢
  rw [List.flatMap_append, List.getElem?_append_right (by omega), l1, List.flatMap_cons, List.getElem?_append_left (by simp [spc]; omega)]
  congr 1
  omega

theorem own_span {w : World} {B n c : Nat} {ao : Option Addr} {L : List Pc} {m : Nat} {p : Pc} (h : w.ownsRow B 57 3 (.slice ao n c) n (spcs L)) (hp : L[m]? = some p) (hn : L.length = n) :
    ∃ g, ao = some ⟨g, 0, none⟩ ∧ w.cell? ⟨g, m * 3, none⟩ = some (.int .i64 p.s) ∧ w.cell? ⟨g, m * 3 + 1, none⟩ = some (.int .i64 p.o) ∧ w.cell? ⟨g, m * 3 + 2, none⟩ = some (.int .i64 p.l) := by
  have hlt := (List.getElem?_eq_some_iff.1 hp).1
  rcases h.2 with ⟨_, h0⟩ | ⟨g, cap, cur, e, _⟩
  · omega
  · cases e
    have hc := fun i (hi : i < 3) u (hu : (spc p)[i]? = some u) => h.cells (g := g) rfl (m * 3 + i) u (by rw [spcs_at hp i hi]; exact hu)
    have ad : ∀ j, (⟨g, 0, none⟩ : Addr).add j = ⟨g, j, none⟩ := fun j => by unfold Addr.add; split <;> simp_all
    refine ⟨g, rfl, ?_, ?_, ?_⟩
    · have := hc 0 (by omega) _ rfl
      rwa [ad] at this
    · have := hc 1 (by omega) _ rfl
      rwa [ad] at this
    · have := hc 2 (by omega) _ rfl
      rwa [ad] at this

set_option maxRecDepth 100000 in
set_option maxHeartbeats 2000000 in
theorem sameSpans_any (a1 : Option Addr) (c1 : Nat) (a2 : Option Addr) (c2 B1 B2 n : Nat) (L M : List Pc) (w : World) (hz : n ≤ 1048576) (hL : Hid (L.length = n)) (hM : Hid (L.map span = M.map span)) (h1 : Hid (w.ownsRow B1 57 3 (.slice a1 n c1) n (spcs L))) (h2 : Hid (w.ownsRow B2 57 3 (.slice a2 n c2) n (spcs M))) :
    Calls Tryz.prog 40 #[.slice a1 n c1, .slice a2 n c2] w fun e w' => e = .returned (.bool true) ∧ Below w.heap.size w w' := by
  go_enter Tryz.func40, Tryz.ntmps40
  go_wp2
  go_loopw [13] (fun i wq => ∃ m : Nat, m ≤ n ∧ i = .int .i64 m ∧ Below w.heap.size w wq) (fun i _ => n - (intOf i).toNat)
  case atStart => exact ⟨0, Nat.zero_le _, rfl, Below.refl _ _⟩
  case round =>
    obtain ⟨m, hm, rfl, hb⟩ := hrel
    have HB := hid hb
    clear hb
    by_cases hmt : m < n
    · have hl := hL.out
      obtain ⟨p, hp⟩ : ∃ p, L[m]? = some p := ⟨_, List.getElem?_eq_getElem (by omega)⟩
      have hl2 : M.length = n := by have := congrArg List.length hM.out; simp at this; omega
      obtain ⟨q, hq⟩ : ∃ q, M[m]? = some q := ⟨_, List.getElem?_eq_getElem (by omega)⟩
      have hpq : span p = span q := by
        have e := congrArg (fun X => X[m]?) hM.out
        simp only [List.getElem?_map, hp, hq, Option.map_some] at e
        exact Option.some.inj e
      obtain ⟨g1, rfl, r0, r1, r2⟩ := own_span (Ab.own_keep h1.out HB.out) hp hl
      obtain ⟨g2, rfl, q0, q1, q2⟩ := own_span (Ab.own_keep h2.out HB.out) hq hl2
      obtain ⟨s, o, l, nn⟩ := p
      obtain ⟨s', o', l', nn'⟩ := q
      simp only [span, Prod.mk.injEq] at hpq
      obtain ⟨rfl, rfl, rfl⟩ := hpq
      simp only at r0 r1 r2 q0 q1 q2
      have hm0 : (0 : Int) ≤ (m : Int) := by omega
      have hml : (m : Int) < (n : Int) := by omega
      clear hp hq hl hl2
      go_wp2
      go_region
      go_wp2
      go_roundw
      case rel => exact ⟨m + 1, by omega, by go_num, HB.out.drew⟩
      case measure => simp [intOf]; omega
    · obtain rfl : m = n := by omega
      go_wp2
      go_ret
      exact ⟨rfl, HB.out⟩

end Go.Proofs.YtmhpeppbhjpkiaaGreat

/- Reading a text in pieces: the loop's state and what a round comes to. -/
namespace Go.Proofs.YtmhpeppbhjpkiaaGreat
open Go.RowKit

/-- What has been read when the pieces pre have come, from the place i0 of the first. -/
def got (O A : List UInt8) (i0 : Nat) (pre : List Pc) : List UInt8 := (txt O A pre).drop i0

/-- Where the next piece is read from. -/
def skip (i0 : Nat) (pre : List Pc) : Nat := if pre = [] then i0 else 0

theorem got_snoc (O A : List UInt8) (i0 : Nat) (pre : List Pc) (x : Pc) (h : pre ≠ [] → i0 ≤ (txt O A pre).length) : got O A i0 (pre ++ [x]) = got O A i0 pre ++ (pcs O A x).drop (skip i0 pre) := by
  unfold got skip
  rw [txt_append, txt_cons, txt_nil, List.append_nil]
  by_cases hp : pre = []
  · subst hp; simp [txt_nil]
  · rw [if_neg hp, List.drop_zero, List.drop_append_of_le_length (h hp)]

/-- The five boxes and the row of a reading under way. -/
structure RdI (w : World) (lo g8 g10 gT : Nat) (vs : Value) (x y : Int) (n : Nat) (k : Nat) (ins : Int) (B : List UInt8) (W : World) : Prop where
  below : Below w.heap.size w W
  b0 : W.heap[w.heap.size]? = some (.cells #[vs] 26 (0, 0))
  b1 : W.heap[w.heap.size + 1]? = some (.cells #[.int .i64 x] 3 (0, 0))
  b2 : W.heap[w.heap.size + 1 + 1]? = some (.cells #[.int .i64 y] 3 (0, 0))
  b8 : W.heap[g8]? = some (.cells #[.int .i64 ins] 3 (0, 0))
  b10 : W.heap[g10]? = some (.cells #[.slice (some ⟨gT, 0, none⟩) k n] 22 (0, 0))
  row : W.ownsRow w.heap.size 5 1 (.slice (some ⟨gT, 0, none⟩) k n) k (Ab.bv B)
  len : B.length = k
  l8 : w.heap.size + 2 < g8
  u8 : g8 < lo
  u10 : g10 < lo
  uT : gT < lo
  l10 : w.heap.size ≤ g10
  lT : w.heap.size ≤ gT

theorem RdI.stab {w : World} {lo hi g8 g10 gT : Nat} {vs : Value} {x y : Int} {n k : Nat} {ins : Int} {B : List UInt8} {W W' : World} (h : RdI w lo g8 g10 gT vs x y n k ins B W) (hk : Kept lo hi W W') : RdI w lo g8 g10 gT vs x y n k ins B W' := by
  have e := h.u8
  have e2 := h.l8
  refine ⟨h.below.trans ⟨hk.os, hk.tape, hk.output, hk.size, fun j hj => hk.block j (by have := h.below.size; omega) (by omega)⟩, (hk.block _ (sh_lt h.b0) (by omega)).trans h.b0, (hk.block _ (sh_lt h.b1) (by omega)).trans h.b1, (hk.block _ (sh_lt h.b2) (by omega)).trans h.b2,
    (hk.block _ (sh_lt h.b8) (.inl h.u8)).trans h.b8, (hk.block _ (sh_lt h.b10) (.inl h.u10)).trans h.b10, own_same h.row fun j e hj => hk.block j hj (.inl ?_), h.len, h.l8, h.u8, h.u10, h.uT, h.l10, h.lT⟩
  have e3 := h.uT
  cases e
  exact e3

theorem RdI.cells {w : World} {lo g8 g10 gT : Nat} {vs : Value} {x y : Int} {n k : Nat} {ins : Int} {B : List UInt8} {W : World} (h : RdI w lo g8 g10 gT vs x y n k ins B W) :
    (W.cell? ⟨w.heap.size, 0, none⟩ = some vs ∧ W.cell? ⟨w.heap.size + 1, 0, none⟩ = some (.int .i64 x) ∧ W.cell? ⟨w.heap.size + 1 + 1, 0, none⟩ = some (.int .i64 y)) ∧ (W.cell? ⟨g8, 0, none⟩ = some (.int .i64 ins) ∧ W.frozen? ⟨g8, 0, none⟩ = false) ∧ (W.cell? ⟨g10, 0, none⟩ = some (.slice (some ⟨gT, 0, none⟩) k n) ∧ W.frozen? ⟨g10, 0, none⟩ = false) :=
  ⟨⟨(box_cell h.b0).1, (box_cell h.b1).1, (box_cell h.b2).1⟩, box_cell h.b8, box_cell h.b10⟩

/-- A call, or a new block. -/
theorem RdI.call {w : World} {lo g8 g10 gT : Nat} {vs : Value} {x y : Int} {n k : Nat} {ins : Int} {B : List UInt8} {W W' : World} (h : RdI w lo g8 g10 gT vs x y n k ins B W) (hb : Below W.heap.size W W') : RdI w lo g8 g10 gT vs x y n k ins B W' :=
  h.stab (hi := lo) (Kept.of_below hb (Nat.le_refl _))

theorem RdI.wide {w : World} {lo lo' g8 g10 gT : Nat} {vs : Value} {x y : Int} {n k : Nat} {ins : Int} {B : List UInt8} {W : World} (h : RdI w lo g8 g10 gT vs x y n k ins B W) (hl : lo ≤ lo') : RdI w lo' g8 g10 gT vs x y n k ins B W :=
  ⟨h.below, h.b0, h.b1, h.b2, h.b8, h.b10, h.row, h.len, h.l8, Nat.lt_of_lt_of_le h.u8 hl, Nat.lt_of_lt_of_le h.u10 hl, Nat.lt_of_lt_of_le h.uT hl, h.l10, h.lT⟩

/-- The place in the next piece is set to 0. -/
theorem RdI.zero {w : World} {lo g8 g10 gT : Nat} {vs : Value} {x y : Int} {n k : Nat} {ins : Int} {B : List UInt8} {W : World} (h : RdI w lo g8 g10 gT vs x y n k ins B W) (j : Int) : RdI w lo g8 g10 gT vs x y n k j B (W.setCell ⟨g8, 0, none⟩ (.int .i64 j)) := by
  have e2 := h.l8
  have ne : ∀ k, k ≠ g8 → (W.setCell ⟨g8, 0, none⟩ (.int .i64 j)).heap[k]? = W.heap[k]? := fun k hk => Below.heap_setCell _ _ _ _ hk
  have n10 : g10 ≠ g8 := fun e => by have a := h.b10; rw [e, h.b8] at a; cases a
  exact ⟨bset h.below (by omega) _ _, (ne _ (by omega)).trans h.b0, (ne _ (by omega)).trans h.b1, (ne _ (by omega)).trans h.b2, box_set h.b8 _, (ne _ n10).trans h.b10,
    own_same h.row fun q e _ => ne q (fun e' => Ab.own_ne h.row h.b8 (by decide) (by rw [e, e'])), h.len, h.l8, h.u8, h.u10, h.uT, h.l10, h.lT⟩

/-- The text grown in its own room, and stored. -/
theorem RdI.more {w : World} {lo g8 g10 gT : Nat} {vs : Value} {x y : Int} {n k m : Nat} {ins : Int} {B C : List UInt8} {W W1 : World} (h : RdI w lo g8 g10 gT vs x y n k ins B W) (hr : W1.ownsRow w.heap.size 5 1 (.slice (some ⟨gT, 0, none⟩) (k + m) n) (k + m) (Ab.bv B ++ Ab.bv C)) (hg : W.grownBy W1 (some gT)) (hC : C.length = m) :
    RdI w lo g8 g10 gT vs x y n (k + m) ins (B ++ C) (W1.setCell ⟨g10, 0, none⟩ (.slice (some ⟨gT, 0, none⟩) (k + m) n)) ∧ ∀ (N : Nat → Prop) (hi : Nat), (∀ k, N k → k ≠ g10 ∧ k ≠ gT) → Rnd N lo hi W (W1.setCell ⟨g10, 0, none⟩ (.slice (some ⟨gT, 0, none⟩) (k + m) n)) := by
  have e2 := h.l8
  have hne : ∀ (q : Nat) (cs : Array Value) (t : Nat), W.heap[q]? = some (Obj.cells cs t (0, 0)) → t ≠ 5 → q ≠ gT := fun q cs t hq ht e => Ab.own_ne h.row hq ht (by rw [e]; rfl)
  have keep : ∀ q, q < W.heap.size → q ≠ gT → W1.heap[q]? = W.heap[q]? := fun q hq hn => hg.block q hq (fun e => hn (Option.some.inj e))
  have ne : ∀ q, q ≠ g10 → (W1.setCell ⟨g10, 0, none⟩ (.slice (some ⟨gT, 0, none⟩) (k + m) n)).heap[q]? = W1.heap[q]? := fun q hq => Below.heap_setCell _ _ _ _ hq
  have n10 : ∀ (q : Nat) (cs : Array Value) (t : Nat), W.heap[q]? = some (Obj.cells cs t (0, 0)) → t ≠ 22 → q ≠ g10 := fun q cs t hq ht e => by subst e; rw [h.b10] at hq; cases hq; exact ht rfl
  have both : ∀ (q : Nat) (cs : Array Value) (t : Nat), W.heap[q]? = some (Obj.cells cs t (0, 0)) → t ≠ 5 → t ≠ 22 → (W1.setCell ⟨g10, 0, none⟩ (.slice (some ⟨gT, 0, none⟩) (k + m) n)).heap[q]? = some (.cells cs t (0, 0)) := fun q cs t hq h1 h2 =>
    ((ne q (n10 q cs t hq h2)).trans (keep q (sh_lt hq) (hne q cs t hq h1))).trans hq
  have hs2 : (W1.setCell ⟨g10, 0, none⟩ (.slice (some ⟨gT, 0, none⟩) (k + m) n)).heap.size = W1.heap.size := by show (W1.heap.modify _ _).size = _; rw [Array.size_modify]
  have l10 := h.l10
  have lT := h.lT
  have u10 := h.u10
  have uT := h.uT
  refine ⟨⟨?_, both _ _ _ h.b0 (by decide) (by decide), both _ _ _ h.b1 (by decide) (by decide), both _ _ _ h.b2 (by decide) (by decide), both _ _ _ h.b8 (by decide) (by decide), box_set ((keep _ (sh_lt h.b10) (hne _ _ _ h.b10 (by decide))).trans h.b10) _, ?_, by simp [h.len, hC], h.l8, h.u8, h.u10, h.uT, h.l10, h.lT⟩, fun N hi hN => ⟨?_, fun q hq hr => ?_⟩⟩
  · exact ⟨hg.os.trans h.below.os, hg.tape.trans h.below.tape, hg.output.trans h.below.output, by rw [hs2]; exact Nat.le_trans h.below.size hg.size, fun q hq => ((ne q (by omega)).trans (keep q (by have := h.below.size; omega) (by omega))).trans (h.below.block q hq)⟩
  · rw [Ab.bv_append]
    exact own_same hr fun q e _ => ne q (fun e' => by cases e; exact (hne _ _ _ h.b10 (by decide)) e'.symm)
  · rw [hs2]; exact hg.size
  · have h1 : q ≠ g10 ∧ q ≠ gT := hr.elim (hN q) (fun h => by omega)
    exact (ne q h1.1).trans (keep q hq h1.2)

theorem RdI.cast {w : World} {lo g8 g10 gT : Nat} {vs : Value} {x y : Int} {n k k' : Nat} {ins : Int} {B B' : List UInt8} {W : World} (h : RdI w lo g8 g10 gT vs x y n k ins B W) (hk : k = k') (hB : B = B') : RdI w lo g8 g10 gT vs x y n k' ins B' W := by
  subst hk hB
  exact h

theorem own_some {W : World} {base m : Nat} {ao : Option Addr} {c : Nat} {xs : List Value} (h : W.ownsRow base 5 1 (.slice ao m c) m xs) (hm : 1 ≤ m) : ∃ g, ao = some ⟨g, 0, none⟩ ∧ ∀ j u, xs[j]? = some u → W.cell? ((⟨g, 0, none⟩ : Addr).add j) = some u := by
  rcases h.2 with ⟨_, h0⟩ | ⟨g, cap, cur, e, _⟩
  · omega
  · cases e
    exact ⟨g, rfl, fun j u hu => h.cells rfl j u hu⟩

/-- What a round comes to. -/
theorem round_pure {O A : List UInt8} {i0 n : Nat} {pre L : List Pc} {s : Int} {o len : Nat} {nn : Int} {pp : Pc} (hg : Gds O A L) (hpre : pre ++ [⟨s, o, len, nn⟩] <+: L) (h0 : L[0]? = some pp) (hi : (i0 : Int) < pp.l) (hk : (got O A i0 pre).length < n) :
    ∃ sk m : Nat, skip i0 pre = sk ∧ sk < len ∧ m = min (len - sk) (n - (got O A i0 pre).length) ∧ 1 ≤ m ∧ m ≤ len - sk ∧ (got O A i0 pre).length + m ≤ n ∧ Ab.sndB s o len = true ∧ o + len ≤ (Ab.which s O A).length ∧ len ≤ 2147483647 ∧
      (Ab.cutL s ((o + sk : Nat) : Int) (m : Int) O A).length = m ∧ Ab.sndB s ((o + sk : Nat) : Int) (m : Int) = true ∧ o + sk + m ≤ (Ab.which s O A).length ∧
      ((got O A i0 pre).length + m < n → got O A i0 (pre ++ [⟨s, o, len, nn⟩]) = got O A i0 pre ++ Ab.cutL s ((o + sk : Nat) : Int) (m : Int) O A ∧ skip i0 (pre ++ [⟨s, o, len, nn⟩]) = 0) ∧
      ((got O A i0 pre).length + m = n → got O A i0 pre ++ Ab.cutL s ((o + sk : Nat) : Int) (m : Int) O A = ((txt O A L).drop i0).take n) := by
  have hx : Gd O A ⟨s, o, len, nn⟩ := by
    obtain ⟨r, hr⟩ := hpre
    exact hg _ (by rw [← hr]; simp)
  have hgp : Gds O A pre := fun q hq => by
    obtain ⟨r, hr⟩ := hpre
    exact hg q (by rw [← hr]; simp [hq])
  have hlow : pre ≠ [] → i0 ≤ (txt O A pre).length := fun hne => by
    obtain ⟨q, qs, rfl⟩ := List.exists_cons_of_ne_nil hne
    obtain ⟨r, hr⟩ := hpre
    rw [← hr] at h0
    simp at h0
    subst h0
    have := (hgp q (by simp)).len
    rw [txt_cons, List.length_append]
    omega
  have hsk : skip i0 pre < len := by
    unfold skip
    split
    · rename_i hn
      subst hn
      obtain ⟨r, hr⟩ := hpre
      rw [← hr] at h0
      simp at h0
      subst h0
      simp only at hi
      omega
    · have := hx.pos
      simp only at this
      omega
  have hfit := hx.fit
  simp only [Pc.fit] at hfit
  obtain ⟨o', l', e1, e2, k1, k2, k3⟩ := Ab.hd_parts hx.hold
  simp only at e1 e2 k1 k2
  obtain rfl : o = o' := by omega
  obtain rfl : len = l' := by omega
  obtain ⟨q1, q2, q3, q4⟩ := snd_out k1
  have hm1 : 1 ≤ min (len - skip i0 pre) (n - (got O A i0 pre).length) := by omega
  have ep : pcs O A ⟨s, o, len, nn⟩ = ((Ab.which s O A).drop o).take len := by simp [pcs, Ab.cutL]
  have ec : Ab.cutL s ((o + skip i0 pre : Nat) : Int) ((min (len - skip i0 pre) (n - (got O A i0 pre).length) : Nat) : Int) O A = ((pcs O A ⟨s, o, len, nn⟩).drop (skip i0 pre)).take (min (len - skip i0 pre) (n - (got O A i0 pre).length)) := by
    rw [ep]
    simp only [Ab.cutL, Int.toNat_natCast]
    rw [List.drop_take, List.drop_drop, List.take_take]
    congr 1
    omega
  have es := got_snoc O A i0 pre ⟨s, o, len, nn⟩ hlow
  have el : ((pcs O A ⟨s, o, len, nn⟩).drop (skip i0 pre)).length = len - skip i0 pre := by rw [ep, List.length_drop, List.length_take, List.length_drop]; omega
  refine ⟨skip i0 pre, _, rfl, hsk, rfl, hm1, by omega, by omega, k1, k2, by omega, ?_, snd_true ⟨q1, by omega, by omega, by omega⟩, by omega, fun h => ⟨?_, by simp [skip]⟩, fun h => ?_⟩
  · rw [ec, List.length_take, el]; omega
  · rw [es, ec, List.take_of_length_le (by rw [el]; omega)]
  · rw [ec]
    obtain ⟨r, hr⟩ := hpre
    have e3 : txt O A L = txt O A (pre ++ [⟨s, o, len, nn⟩]) ++ txt O A r := by rw [← hr, txt_append]
    have hle : n ≤ (got O A i0 (pre ++ [⟨s, o, len, nn⟩])).length := by rw [es, List.length_append, el]; omega
    have hi0 : i0 ≤ (txt O A (pre ++ [⟨s, o, len, nn⟩])).length := by
      unfold got at hle
      rw [List.length_drop] at hle
      omega
    rw [e3, List.drop_append_of_le_length hi0]
    show _ = List.take n (got O A i0 (pre ++ [⟨s, o, len, nn⟩]) ++ txt O A r)
    rw [List.take_append_of_le_length hle, es, List.take_append, List.take_of_length_le (Nat.le_of_lt hk), show min (len - skip i0 pre) (n - (got O A i0 pre).length) = n - (got O A i0 pre).length by omega]

end Go.Proofs.YtmhpeppbhjpkiaaGreat

