/- Pieces of a sheet: the spans of its tree's pieces, in order, in new memory. -/
import Derived.Test.YtpifjghhlcjedaaPutw
import Derived.Maps.AppendAt
import Derived.RangeFuncBox
namespace Go.Proofs.Ytpifjghhlcjedaa
open Go.RowKit Go.Shelf
attribute [local go_sem] Oper.semAt_some

def spc (p : Pc) : List Value := [.int .i64 p.s, .int .i64 p.o, .int .i64 p.l]
/-- The cells of the spans of pieces. -/
def spcs (L : List Pc) : List Value := L.flatMap spc
theorem spcs_length (L : List Pc) : (spcs L).length = L.length * 3 := by
  induction L with
  | nil => rfl
  | cons p L ih => simp [spcs, spc] at ih ⊢; omega
theorem spcs_snoc (L : List Pc) (p : Pc) : spcs (L ++ [p]) = spcs L ++ spc p := by simp [spcs]

theorem infoSp : (Try.prog.info? 30).map (fun i => (i.zero, i.size, i.bytes)) = some (some (.agg #[.int .i64 0, .int .i64 0, .int .i64 0]), 3, 24) := by kernel_rfl

theorem own_ge {A : World} {base e size n : Nat} {v : Value} {xs : List Value} (h : A.ownsRow base e size v n xs) {k : Nat} (hk : v.ownBlock = some k) : base ≤ k := by
  rcases h.2 with ⟨rfl, _⟩ | ⟨g, cap, cur, rfl, e2, _⟩
  · cases hk
  · simp [Value.ownBlock] at hk
    omega

theorem cell_three (w : World) (x y z : Value) (t : TypeId) : ∀ j u, [x, y, z][j]? = some u → (w.alloc (.cells #[x, y, z] t)).cell? ((⟨w.heap.size, 0, none⟩ : Addr).add j) = some u := by
  intro j u hj
  have hn := World.alloc_heap_new w (.cells #[x, y, z] t)
  have e : (w.alloc (.cells #[x, y, z] t)).cell? ((⟨w.heap.size, 0, none⟩ : Addr).add j) = #[x, y, z][j]? := by
    have ea : (⟨w.heap.size, 0, none⟩ : Addr).add j = ⟨w.heap.size, j, none⟩ := by unfold Addr.add; split <;> simp_all
    rw [ea]
    unfold World.cell?
    simp only [hn]
    simp
  rw [e]
  simpa using hj

/-- A round that appends to a list of its own whose variable is boxed at B. -/
theorem ring_append {n₀ lo hi B k m : Nat} {t e size : Nat} {W w3 : World} {tmp : Obj} {v v' : Value} {xs ys : List Value} (hv : W.heap[B]? = some (.cells #[v] t (0, 0))) (h0 : n₀ ≤ B) (h1 : B < lo) (h2 : lo ≤ hi)
    (hrow : W.ownsRow hi e size v k xs) (hown : w3.ownsRow hi e size v' m ys) (hg : (W.alloc tmp).grownBy w3 v.ownBlock) :
    Rnd (· < n₀) lo hi W (w3.setCell ⟨B, 0, none⟩ v') ∧ (w3.setCell ⟨B, 0, none⟩ v').heap[B]? = some (.cells #[v'] t (0, 0)) ∧ (w3.setCell ⟨B, 0, none⟩ v').ownsRow hi e size v' m ys ∧ Below n₀ W (w3.setCell ⟨B, 0, none⟩ v') := by
  have hlt := sh_lt hv
  have hsz : W.heap.size ≤ w3.heap.size := by have := hg.size; simp at this; omega
  have hkeep : ∀ k, k < W.heap.size → k < hi → w3.heap[k]? = W.heap[k]? := fun k hk hh =>
    (hg.block k (by simp; omega) (fun e => by have := own_ge hrow e.symm; omega)).trans (Below.heap_alloc W _ k hk)
  have hset : ∀ k, k ≠ B → (w3.setCell ⟨B, 0, none⟩ v').heap[k]? = w3.heap[k]? := fun k hk => Below.heap_setCell _ _ _ _ hk
  have hs2 : (w3.setCell ⟨B, 0, none⟩ v').heap.size = w3.heap.size := by show (w3.heap.modify _ _).size = _; rw [Array.size_modify]
  refine ⟨⟨by omega, fun k hk hr => (hset k (by omega)).trans (hkeep k hk (by omega))⟩, box_set ((hkeep B hlt (by omega)).trans hv) _, own_same hown fun k e hk => hset k (by have := own_ge hown e; omega), ?_⟩
  exact ⟨hg.os, hg.tape, hg.output, by omega, fun k hk => (hset k (by omega)).trans (hkeep k (by omega) (by omega))⟩

/-- Between two rounds: the list so far. -/
def PcI (w : World) (lo hi : Nat) (pre : List Pc) (W : World) : Prop :=
  (∃ v, W.heap[w.heap.size]? = some (.cells #[v] 74 (0, 0)) ∧ W.ownsRow hi 30 3 v pre.length (spcs pre)) ∧ Below w.heap.size w W ∧ w.heap.size < lo

theorem PcI.stab (w : World) (lo hi : Nat) : Stab lo hi (PcI w lo hi) := by
  rintro pre A B ⟨⟨v, h1, h2⟩, h4, h5⟩ hk
  have hs := sh_lt h1
  refine ⟨⟨v, (hk.block _ hs (.inl h5)).trans h1, ?_⟩, h4.trans ⟨hk.os, hk.tape, hk.output, hk.size, fun k hk' => hk.block k (by omega) (by omega)⟩, h5⟩
  exact own_same h2 fun k e hlt => hk.block k hlt (.inr (own_ge h2 e))

set_option maxRecDepth 100000 in
set_option maxHeartbeats 2000000 in
theorem Pieces_any (p a : Option Addr) (n : Int) (t : Tr) (w : World) (h : Hid (ShT w p a n)) (ht : Hid (At w t a)) (hz : t.size ≤ 1048576) :
    Calls Try.prog 31 #[.pointer p] w fun e w' => ∃ ao cap, e = .returned (.slice ao t.size cap) ∧ w'.ownsRow w.heap.size 30 3 (.slice ao t.size cap) t.size (spcs t.list) ∧ Below w.heap.size w w' := by
  refine (callsIn_wide (n := 9)).1 ?_
  refine callsIn_of_wp_marks Try.func31 rfl trivial ?_ rfl
  simp only [Try.ntmps31, List.size_toArray, List.length_cons, List.length_nil, Nat.reduceAdd, Nat.reduceSub, Array.replicate_succ, Array.replicate_zero, List.push_toArray, List.append_toArray, List.nil_append, List.cons_append]
  gi_wp2
  refine ⟨trivial, ?_⟩
  have hb0 : Below w.heap.size w (w.alloc (.cells #[.slice none 0 0] 74)) := bAlloc (Below.refl _ _) _
  refine (callsIn_wide.2 (shTree_any p a n _ (h.out.keep hb0))).mono ?_
  rintro e w1 ⟨rfl, hb1⟩
  have hw1 := hb0.trans (hb1.mono hb0.size)
  have hbox : w1.heap[w.heap.size]? = some (.cells #[.slice none 0 0] 74 (0, 0)) := (hb1.block _ (by simp)).trans (World.alloc_heap_new w _)
  have hlt1 := sh_lt hbox
  gi_wp2
  refine ⟨trivial, ?_⟩
  refine (callsIn_wide.2 (all_any a w1)).mono ?_
  rintro e w2 ⟨rfl, hw2⟩
  have hsz2 : w1.heap.size < w2.heap.size := by rw [hw2]; simp
  have hb2 : Below w.heap.size w w2 := by rw [hw2]; exact bAlloc hw1 _
  have hbox2 : w2.heap[w.heap.size]? = some (.cells #[.slice none 0 0] 74 (0, 0)) := by rw [hw2]; exact (Below.heap_alloc _ _ _ hlt1).trans hbox
  have hallbox : w2.heap[w1.heap.size]? = some (.cells #[.pointer a] 26 (0, 0)) := by rw [hw2]; exact World.alloc_heap_new _ _
  clear hw2
  gi_wp2
  refine wpIn_ring (F := Fence.wide) rfl rfl rfl trivial (enters_of Try.func65 (by kernel_rfl) rfl) (all_seq (· < w.heap.size) w t a w1.heap.size w2 ht.out (fun b cs h => sh_lt h) (fun k hk _ => hb2.block k hk) hb2.size hallbox hz) (Below.refl _ _) (fun k hk => Nat.lt_of_lt_of_le hk hb2.size) (fun _ _ => rfl)
    (PcI w w2.heap.size (w2.heap.size + 2 + 2)) (fun _ _ _ => False) (PcI.stab _ _ _) (fun _ _ _ _ h _ => h) ?h0
    (fun pre x a' W => ∃ Bx, W.heap[Bx]? = some (.cells #[.int .i64 x.s, .int .i64 x.o, .int .i64 x.l, .int .i64 x.n] 32 (0, 0)) ∧ w2.heap.size + 4 ≤ Bx ∧ a' = { tmps := #[.pointer p, undef, .slice none 0 0, .pointer (some ⟨w.heap.size, 0, none⟩), undef, .pointer (some ⟨Bx, 0, none⟩), .pointer p, .agg #[.pointer a], .func (.func 65) #[] #[.pointer (some ⟨w1.heap.size, 0, none⟩)], .int .i64 (pre.length : Int), x.v, undef, undef, undef, undef, undef, undef], defers := [] })
    ?hAx ?assign ?body ?done (fun _ _ _ _ h _ => h.elim)
  case h0 =>
    exact ⟨⟨_, hbox2, World.ownsRow_nil _ _ _ _⟩, hb2, by omega⟩
  case hAx =>
    rintro pre x a' ⟨⟩ A B ⟨Bx, h1, h2, h3⟩ hk
    exact ⟨Bx, (hk.block _ (sh_lt h1) (by omega)).trans h1, h2, h3⟩
  case assign =>
    rintro l pre ⟨s, o, len, nn⟩ W K hi hbig hpre hK
    simp only [Pc.v] at hK ⊢
    have HK := hid hK
    clear hK
    gi_wp2
    refine HK.out _ _ ?_ (PcI.stab _ _ _ _ _ _ hi (Kept.alloc _ _ _ _)) ⟨W.heap.size, World.alloc_heap_new _ _, by omega, rfl⟩
    exact Rnd.alloc _ _ _ _ _
  case body =>
    rintro l pre ⟨s, o, len, nn⟩ a' W rfl ⟨r, hr⟩ ⟨⟨v, hv, hrow⟩, hB, hlo⟩ hbig ⟨Bx, hx, hBx, rfl⟩ hpre
    obtain ⟨d0, d1, d2, d3⟩ := four_cells hx
    obtain ⟨hc, hf⟩ := box_cell hv
    have hsz := sh_lt hv
    have hplen : pre.length + 1 ≤ 1048576 := by have := hpre.length_le; simp at this; have := t.size_list; omega
    obtain ⟨i0, hi, hz0, hz1, hz2⟩ := info_parts infoSp
    have hne : some w.heap.size ≠ v.ownBlock := fun e => by have := own_ge hrow e.symm; omega
    have HR := hid hrow
    have HV := hid hv
    clear hrow hv hx hr
    gi_wp2_with (gi_at_builtin; refine wpListIn_append_own _ rfl _ _ 74 rfl (w2.heap.size + 2 + 2) 30 i0 (.agg #[.int .i64 0, .int .i64 0, .int .i64 0]) 3 24 Try.underlying74 hi hz0 hz1 hz2 rfl (by decide) _ _ _ rfl (HR.out.alloc _) ⟨W.heap.size, 0, none⟩ 1 1 [.int .i64 s, .int .i64 o, .int .i64 len] rfl rfl (cell_three _ _ _ _ _) (by simp [Value.oneCell']) (by simp [maxLen]; omega) (by omega) (by simp; omega) ?_; intro v' w3 hown' hgrow _; obtain ⟨g', cap', rfl⟩ := ownsRow_succ hown'; have hb3 := (hgrow.block w.heap.size (by simp; omega) hne).trans ((Below.heap_alloc W _ _ hsz).trans HV.out); obtain ⟨hc3, hf3⟩ := box_cell hb3)
    obtain ⟨r1, r2, r3, r4⟩ := ring_append HV.out (Nat.le_refl _) hlo (by omega) HR.out hown' hgrow
    exact ⟨r1, ⟨⟨_, r2, by rw [spcs_snoc]; simpa [spc] using r3⟩, hB.trans r4, hlo⟩⟩
  case done =>
    rintro W ⟨⟨v, hv, hrow⟩, hB, hlo⟩ hD
    obtain ⟨hc, hf⟩ := box_cell hv
    gi_wp2
    refine ⟨by simp, .inl ⟨_, _, rfl, run_takeDeferred hD, ?_⟩⟩
    refine ⟨_, results_tmp rfl _ _ _, ?_⟩
    obtain ⟨ao, cap, rfl⟩ := own_shape hrow
    rw [t.size_list] at hrow
    refine ⟨ao, cap, by rw [t.size_list]; rfl, ?_, ?_⟩
    · exact Ab.own_lower (own_same hrow fun k e _ => World.putObj_heap_other (by have := own_ge hrow e; omega)) (by omega)
    · exact hB.trans ⟨rfl, rfl, rfl, by simp, fun k hk => World.putObj_heap_other (by omega)⟩

end Go.Proofs.Ytpifjghhlcjedaa
