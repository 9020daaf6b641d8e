/- change.Invert. -/
import Derived.Test.YtaahklapoppgaaaQm09
namespace Go.Proofs.Ytaahklapoppgaaa
open Go.RowKit Go.Shelf
attribute [local go_sem] Oper.semAt_some

set_option maxRecDepth 8000
theorem own_same {A B : World} {base e size n : Nat} {v : Value} {xs : List Value} (h : A.ownsRow base e size v n xs) (hb : ∀ k, v.ownBlock = some k → k < A.heap.size → B.heap[k]? = A.heap[k]?) : B.ownsRow base e size v n xs := by
  refine ⟨h.1, ?_⟩
  rcases h.2 with h0 | ⟨g, cap, cur, rfl, hb', hg, rest⟩
  · exact .inl h0
  · exact .inr ⟨g, cap, cur, rfl, hb', by rw [hb g rfl (Array.getElem?_eq_some_iff.1 hg).1]; exact hg, rest⟩
/-- rows that lie outside [lo, hi) -/
def Out (lo hi : Nat) (R : List Rw) : Prop := ∀ (i : Nat) (r : Rw), R[i]? = some r → ∀ g, r.v.ownBlock = some g → g < lo ∨ hi ≤ g
theorem Rws.kept {w A B : World} {lo hi : Nat} {R : List Rw} (h : Rws w A R) (hk : Kept lo hi A B) (ho : Out lo hi R) (hlo : w.heap.size ≤ lo) : Rws w B R :=
  ⟨fun i r hi => own_same (h.own i r hi) (fun k e hlt => hk.block k hlt (ho i r hi k e)), h.far, h.bel.trans ⟨hk.os, hk.tape, hk.output, hk.size, fun k hk' => hk.block k (by have := h.size; omega) (by omega)⟩⟩
/-- between two rounds: the list so far -/
structure Ivs (w : World) (B Bs lo hi : Nat) (pre : List Er) (W : World) : Prop where
  lst : ∃ v F, Blk W B 38 #[v] ∧ Lst w W v F ∧ Out lo hi (⟨77, 3, v, F.length, ecs F⟩ :: rowsE F) ∧ F.map Er.d = (pre.map Er.d).map swp ∧ (∀ g, v.ownBlock = some g → g ≠ B ∧ g ≠ Bs) ∧ ∀ (i : Nat) (r : Rw), (rowsE F)[i]? = some r → ∀ g, r.v.ownBlock = some g → g ≠ B
  blo : w.heap.size ≤ B ∧ B < lo
theorem Ivs.stab (w : World) (B Bs lo hi : Nat) : Stab lo hi (Ivs w B Bs lo hi) := by
  rintro pre A C ⟨⟨v, F, h1, h2, h3, h4, h5⟩, h6⟩ hk
  refine ⟨⟨v, F, ?_, ⟨h2.rws.kept hk h3 (by omega), h2.bnd⟩, h3, h4, h5⟩, h6⟩
  unfold Blk
  rw [hk.block B h1.lt (by omega)]
  exact h1
theorem Rws.off {w W W' : World} {B : Nat} {R : List Rw} (h : Rws w W R) (hg : W.grownBy W' (some B)) (hne : ∀ (i : Nat) (r : Rw), R[i]? = some r → ∀ g, r.v.ownBlock = some g → g ≠ B) (hB : w.heap.size ≤ B) : Rws w W' R :=
  ⟨fun i r hi => own_same (h.own i r hi) (fun k e hlt => hg.block k hlt (fun e' => by injection e' with e'; exact hne i r hi k e e')), h.far, h.bel.grown hg h.size (fun k hk => by injection hk with hk; omega)⟩
theorem cons_at {α : Type} {x y : α} {l : List α} {i : Nat} (h : (x :: l)[i]? = some y) : (i = 0 ∧ y = x) ∨ ∃ j, i = j + 1 ∧ l[j]? = some y := by
  cases i with
  | zero => simp at h; exact .inl ⟨rfl, h.symm⟩
  | succ j => exact .inr ⟨j, rfl, by simpa using h⟩
theorem rowsE_of {F : List Er} {r : Er} {i : Nat} {x : Rw} (h : (rowsE (F ++ [r]))[i]? = some x) : (rowsE F)[i]? = some x ∨ x = r.r1 ∨ x = r.r2 := by
  rw [rowsE_snoc] at h
  rcases snoc_at h with h | ⟨_, h⟩
  · rcases snoc_at h with h | ⟨_, h⟩
    · exact .inl h
    · exact .inr (.inl h)
  · exact .inr (.inr h)
theorem run_roomE (n : Nat) (hn : n * 56 ≤ 140737488355328) : ∃ CS : Array Value, CS.size = n * 3 ∧ ∀ W : World, (Instr.makeSlice 38 (.int .i64 0) (.int .i64 (n : Int))).run Try.prog W = .ok (.slice (some ⟨W.heap.size, 0, none⟩) 0 n) (W.alloc (.cells CS 77)) := by
  obtain ⟨i0, hi, hz0, hz1, hz2⟩ := info_parts info38
  refine ⟨madeCells (Value.agg #[.int .i64 0, .slice none 0 0, .slice none 0 0]).cells (n * 3), by simp [madeCells], fun W => ?_⟩
  have := run_make (P := Try.prog) W 38 77 i0 _ Try.underlying38 hi hz0 .i64 .i64 0 (n : Int) (by omega) (by omega) (by rw [hz2]; omega) (by omega)
  rw [hz1, show (n : Int).toNat = n by omega] at this
  exact this
/-- append of an edit to a list of one's own, in a region that draws -/
theorem st_ed {w : World} {cc : Bool} {o : Oper} {a : Act} {K : Act → World → Prop} {Q : Exit → Act → World → Prop} {E : Prop} (hcc : cc = true) (d s : Operand)
    (ho : o.op = .call { callee := .builtin .append, args := #[d, s], argTypes := #[38, 38] }) (v u : Value) (hd : a.eval d = v) (hs : a.eval s = u) {v' : Value} {w' : World}
    (hr : ∀ ty, (Builtin.append_ #[38, 38] ty #[v, u]).run Try.prog w = .ok v' w') (h : K (a.put o.dst v') w') : if cc = true then Oper.wp Try.prog o a w K Q else E := by
  rw [if_pos hcc]
  have hr' := hr o.type
  unfold Oper.wp execOp
  simp only [ho, resolve, invoke, builtin, Sem.run_bind, Sem.run_pure, Result.andThen_ok, List.map_toArray, List.map_cons, List.map_nil, hd, hs, hr']
  exact h
set_option maxHeartbeats 8000000 in
set_option linter.unusedSimpArgs false in
theorem invert_any (eo : Option Addr) (en ec : Nat) (E : List Er) (w : World) (HE : Hid (Edz w eo E)) (hn : E.length = en) (heb : en * 56 ≤ 140737488355328) :
    Calls Try.prog 31 #[.slice eo en ec] w fun e w' => LstP (inv (E.map Er.d)) w e w' := by
  obtain ⟨CS, hCS, hmk⟩ := run_roomE en heb
  have HN := mkH hn
  refine (callsIn_wide (n := 9)).1 ?_
  refine callsIn_of_wp_marks Try.func31 rfl trivial ?_ rfl
  simp only [Try.ntmps31, List.size_toArray, List.length_cons, List.length_nil, Nat.reduceAdd, Nat.reduceSub, Array.replicate_succ, Array.replicate_zero, List.push_toArray, List.append_toArray, List.nil_append, List.cons_append]
  have hP1 := World.ownsRow_made (base := w.heap.size) (e := 77) (size := 3) w CS en (Nat.le_refl _) (by unfold maxLen; omega) hCS
  have hr1 := (Rws.nil w).new (bAlloc (Below.refl _ w) (.cells CS 77)) hP1
  gi_wp2
  refine ⟨trivial, ?_⟩
  obtain ⟨q, hq⟩ : ∃ q, q = w.heap.size := ⟨_, rfl⟩
  obtain ⟨w1, hw1⟩ : ∃ w1, w1 = (w.alloc (.cells CS 77)).alloc (.cells #[.slice (some ⟨w.heap.size, 0, none⟩) 0 en] 38) := ⟨_, rfl⟩
  rw [← hw1]
  have hz1 : w1.heap.size = q + 2 := by rw [hw1, hq]; simp
  have hR1 : Rws w w1 [⟨77, 3, .slice (some ⟨q, 0, none⟩) 0 en, 0, []⟩] := by rw [hw1, hq]; exact hr1.alloc _
  have hB1 : Blk w1 (q + 1) 38 #[.slice (some ⟨q, 0, none⟩) 0 en] := by
    rw [hw1, hq]
    have := Blk.new (w.alloc (.cells CS 77)) 38 #[.slice (some ⟨w.heap.size, 0, none⟩) 0 en]
    rwa [World.size_alloc] at this
  refine (callsIn_wide.2 (backward_any eo en ec w1)).mono ?_
  rintro e w2 ⟨rfl, hw2⟩
  have hz2 : w2.heap.size = q + 3 := by rw [hw2]; simp; omega
  have hb12 : Below w1.heap.size w1 w2 := by rw [hw2]; exact bAlloc (Below.refl _ _) _
  have hS2 : Blk w2 (q + 2) 38 #[.slice eo en ec] := by
    rw [hw2]
    have := Blk.new w1 38 #[.slice eo en ec]
    rwa [hz1] at this
  have hR2 := hR1.keep hb12
  have hB2 := hB1.keep hb12
  rw [hz1, ← hq]
  clear hw1 hw2 hb12 hR1 hB1 hmk hCS hr1 hP1
  have hEd : Edr w2 eo E := HE.out.row.keep hR2.bel
  have HR2 := mkH hR2
  have HB2 := mkH hB2
  have HQ := mkH hq
  have HQW : Hid (w.heap.size ≤ w2.heap.size) := hR2.size
  have HZ2 := mkH hz2
  clear hq hz1 hz2
  dsimp only
  gi_wp2
  refine wpIn_ring (F := Fence.wide) rfl rfl rfl trivial (enters_of Try.func77 (by kernel_rfl) rfl) (backward_seq (fun k => k < w.heap.size ∨ k = q + 2) w2 (q + 2) eo en ec E ⟨hS2, hEd, .inr rfl, fun h0 g o h => by
      obtain ⟨r, hr⟩ : ∃ r, E[0]? = some r := ⟨_, List.getElem?_eq_getElem h0⟩
      obtain ⟨g', o', h1, h2, _⟩ := HE.out.row 0 r hr
      rw [h1] at h; cases h
      exact .inl (lt_of_cell h2)⟩ hn (by omega)) (Below.refl _ _) (fun k hk => by have := HQW.out; have := HZ2.out; rcases hk with hk | hk <;> omega) (fun _ _ => rfl)
    (Ivs w (q + 1) (q + 2) w2.heap.size (w2.heap.size + 2 + 0)) (fun _ _ _ => False) (Ivs.stab _ _ _ _ _) (fun _ _ _ _ h _ => h) ?h0
    (fun pre x a' W => ∃ Bx, Blk W Bx 77 x.cs ∧ w2.heap.size + 2 ≤ Bx ∧ (∀ v, Blk W (q + 1) 38 #[v] → ∀ g, v.ownBlock = some g → g ≠ Bx) ∧ a' = { tmps := #[.slice eo en ec, undef, .slice none 0 0, .pointer (some ⟨q + 1, 0, none⟩), undef, .pointer (some ⟨Bx, 0, none⟩), .slice eo en ec, .int .i64 (en : Int), .slice (some ⟨q, 0, none⟩) 0 en, .slice eo en ec, .func (.func 77) #[] #[.pointer (some ⟨q + 2, 0, none⟩)], .int .i64 ((en - 1 - pre.length : Nat) : Int), .agg x.cs, undef, undef, undef, undef, undef, undef, undef, undef, undef, undef, undef], defers := [] })
    ?hAx ?assign ?body ?done (fun _ _ _ _ h _ => h.elim)
  case h0 =>
    refine ⟨⟨.slice (some ⟨q, 0, none⟩) 0 en, [], HB2.out, ⟨HR2.out, fun r hr => by simp at hr⟩, fun i r hi g hg => ?_, rfl, fun g hg => ?_, fun i r hi => by simp [rowsE] at hi⟩, ?_⟩
    · rcases cons_at hi with ⟨_, rfl⟩ | ⟨j, _, hj⟩
      · simp [Value.ownBlock] at hg; have := HZ2.out; omega
      · simp [rowsE] at hj
    · simp [Value.ownBlock] at hg; omega
    · have := HQ.out; have := HZ2.out; omega
  case hAx =>
    rintro pre x a' ⟨⟩ A C ⟨Bx, h1, h2, h3, h4⟩ hk
    refine ⟨Bx, ?_, h2, fun v hv => h3 v ?_, h4⟩
    · unfold Blk; rw [hk.block Bx h1.lt (by omega)]; exact h1
    · have hz2 := HZ2.out
      have hlt : q + 1 < A.heap.size := by have := h1.lt; omega
      unfold Blk at hv ⊢
      rw [← hk.block (q + 1) hlt (by omega)]; exact hv
  case assign =>
    rintro l pre x W K hi hbig hpre hK
    have HK := mkH hK
    have HI := mkH hi
    have hbg := mkH hbig
    clear hK hi hbig
    obtain ⟨xa, p1, o, c1, O, p2, n2, c2, N⟩ := x
    dsimp only [Er.cs]
    gi_wp2
    refine HK.out _ _ (Rnd.alloc _ _ _ _ _) (Ivs.stab _ _ _ _ _ _ _ _ HI.out (Kept.alloc _ _ _ _)) ⟨W.heap.size, Blk.new _ _ _, by have := hbg.out; omega, fun v hv g hg => ?_, rfl⟩
    obtain ⟨⟨v0, F, h1, h2, -⟩, -⟩ := HI.out
    have e := h1.keep (bAlloc (Below.refl _ W) (.cells #[.int .i64 xa, .slice p1 o c1, .slice p2 n2 c2] 77))
    unfold Blk at e hv
    rw [e] at hv
    simp at hv
    subst hv
    have := (h2.own.lt g hg).2
    omega
  case body =>
    rintro l pre x a' W rfl ⟨r, hr⟩ ⟨⟨v, F, hv, hL, hO, hF, hvB, hrB⟩, hbl⟩ hbig ⟨Bx, hx, hBx, hBv, rfl⟩ hpre
    have hxm : x ∈ E := by
      have : x ∈ E.reverse := hpre.subset (by simp)
      simpa using this
    obtain ⟨kx, hkx⟩ := List.getElem?_of_mem hxm
    have hEt := HE.out.txs kx x hkx
    have hEtW := hEt.keep hL.bel
    clear hxm hkx hEt hr
    obtain ⟨xa, p1, o, c1, O, p2, n2, c2, N⟩ := x
    obtain ⟨va, vc, ev, -, -⟩ := hL.edz
    subst ev
    have hplen : F.length + 1 ≤ en := by
      have h1 := congrArg List.length hF
      have h2 := hpre.length_le
      have h3 := HN.out
      simp at h1 h2
      omega
    have hvw := hvB
    have CE : Hid (∀ W1, Below W.heap.size W W1 → Calls Try.prog 62 #[.int .i64 xa, .slice p2 n2 c2, .slice p1 o c1] W1 fun e w' => NewE ⟨xa, N, O⟩ W1 e w') := fun W1 h1 => edit_any xa p2 n2 c2 N p1 o c1 O W1 (hEtW.t2.keep h1) (hEtW.t1.keep h1) hEtW.b2 hEtW.b1
    have KX : Hid (Blk W.drew Bx 77 #[.int .i64 xa, .slice p1 o c1, .slice p2 n2 c2]) := hx
    have KV : Hid (Blk W.drew (q + 1) 38 #[.slice va F.length vc]) := hv
    have KL : Hid (Lst w W.drew (.slice va F.length vc) F) := hL.keep (Below.refl _ _).drew
    have LW : Hid (Below W.heap.size W W.drew) := (Below.refl _ _).drew
    have FO := mkH hO
    have FF := mkH hF
    have FV := mkH hvB
    have FR := mkH hrB
    have FB := mkH (hBv _ hv)
    have FS : Hid (q + 2 ≤ w2.heap.size ∧ w2.heap.size + 2 ≤ Bx ∧ w2.heap.size + 2 + 0 ≤ W.heap.size ∧ w.heap.size = q ∧ F.length + 1 ≤ en ∧ w2.heap.size = q + 3 ∧ Bx < W.heap.size) := ⟨by have := HZ2.out; omega, hBx, hbig, HQ.out.symm, hplen, HZ2.out, hx.lt⟩
    clear hx hv hL hO hF hvB hrB hBv hBx hbig hplen hpre hEtW hvw hbl
    refine wpIn_block ?_
    refine region_in (S := fun w' => Blk w' Bx 77 #[.int .i64 xa, .slice p1 o c1, .slice p2 n2 c2]) (by kernel_rfl) (by kernel_rfl) (by rintro ⟨_, _, h⟩; exact h) ?_
    change wpAnyH _ _ _ _ _ _ _ _ (World.drew _)
    have HV4 : Hid (W.drew.heap.size = W.heap.size) := rfl
    have HV5 : Hid (∀ k : Nat, W.drew.heap[k]? = W.heap[k]?) := fun _ => rfl
    generalize W.drew = V4 at *
    refine tk 1 (.pointer (some ⟨Bx, 0, none⟩)) KX.out ?_
    refine ta 2 (.int .i64 xa) rfl (Or.inl ⟨by rfl, fun w9 h9 => by have h5 := h9.cell (j := 0) rfl; have h6 := h9.cell (j := 1) rfl; have h7 := h9.cell (j := 2) rfl; go_simp⟩) KX.out ?_
    refine tk 3 (.pointer (some ⟨Bx, 2, none⟩)) KX.out ?_
    refine ta 4 (.slice p2 n2 c2) rfl (Or.inl ⟨by rfl, fun w9 h9 => by have h5 := h9.cell (j := 0) rfl; have h6 := h9.cell (j := 1) rfl; have h7 := h9.cell (j := 2) rfl; go_simp⟩) KX.out ?_
    try simp only [Act.put, jj1, jj2, jj3, jj4, jj5, jj6]
    refine tk 5 (.pointer (some ⟨Bx, 1, none⟩)) KX.out ?_
    refine ta 6 (.slice p1 o c1) rfl (Or.inl ⟨by rfl, fun w9 h9 => by have h5 := h9.cell (j := 0) rfl; have h6 := h9.cell (j := 1) rfl; have h7 := h9.cell (j := 2) rfl; go_simp⟩) KX.out ?_
    try simp only [Act.put, jj1, jj2, jj3, jj4, jj5, jj6]
    refine wpAnyH_all (rs := [0, 7]) (by kernel_rfl) (by simp) (AllH.cons rfl (fun K hK => ?_) (AllH.cons rfl (fun K hK => ?_) AllH.nil))
    · skip
      have x0 : V4.cell? ⟨q + 1, 0, none⟩ = some (.slice va F.length vc) := blk_cell1 KV.out
      go_simp
      clear x0
      refine hK _ _ ⟨KX.out, ?_⟩
      clear hK K
      try simp only [Act.put, jj1, jj2, jj3, jj4, jj5, jj6]
      refine wpAnyH_all (rs := [7]) (by kernel_rfl) (by simp) (AllH.cons rfl (fun K hK => ?_) AllH.nil)
      go_simp
      refine (CE.out V4 LW.out).mono ?_
      rintro e w5 ⟨r5, rfl, hd5, hO5, hb5⟩
      have O5 := mkH hO5
      have D5 := mkH hd5
      have B5 := mkH hb5
      have KX5 := mkH (KX.out.keep hb5)
      have KV5 := mkH (KV.out.keep hb5)
      obtain ⟨a7, p7, o7, c7, O7, p8, n8, c8, N8⟩ := r5
      clear hO5 hd5 hb5
      dsimp only [Er.cs]
      refine hK _ _ ⟨KX5.out, ?_⟩
      clear hK K
      try simp only [Act.put, jj1, jj2, jj3, jj4, jj5, jj6]
      refine wpAnyH_all (rs := [8]) (by kernel_rfl) (by simp) (AllH.cons rfl (fun K hK => ?_) AllH.nil)
      go_simp
      have B6 : Hid (Below V4.heap.size V4 (w5.alloc (.cells #[.int .i64 a7, .slice p7 o7 c7, .slice p8 n8 c8] 77))) := bT B5.out (bAlloc (Below.refl _ _) _)
      have O6 : Hid (Oe (w5.alloc (.cells #[.int .i64 a7, .slice p7 o7 c7, .slice p8 n8 c8] 77)) V4.heap.size ⟨a7, p7, o7, c7, O7, p8, n8, c8, N8⟩) := O5.out.keep (bAlloc (Below.refl _ _) _)
      have C6 : Hid (∀ (j : Nat) (u : Value), (Er.cs ⟨a7, p7, o7, c7, O7, p8, n8, c8, N8⟩).toList[j]? = some u → (w5.alloc (.cells #[.int .i64 a7, .slice p7 o7 c7, .slice p8 n8 c8] 77)).cell? ((⟨w5.heap.size, 0, none⟩ : Addr).add j) = some u) := fun j u hj => lit_cells w5 _ 77 j u hj
      have KX6 := mkH (KX.out.keep B6.out)
      have KV6 := mkH (KV.out.keep B6.out)
      obtain ⟨g5, hg5⟩ : ∃ g5, g5 = w5.heap.size := ⟨_, rfl⟩
      rw [← hg5] at C6 ⊢
      clear hg5 O5 B5 KX5 KV5
      generalize w5.alloc (.cells #[.int .i64 a7, .slice p7 o7 c7, .slice p8 n8 c8] 77) = w6 at *
      refine hK _ _ ⟨KX6.out, ?_⟩
      clear hK K
      try simp only [Act.put, jj1, jj2, jj3, jj4, jj5, jj6]
      refine wpAnyH_all (rs := [9]) (by kernel_rfl) (by simp) (AllH.cons rfl (fun K hK => ?_) AllH.nil)
      obtain ⟨v', w7, hr7, ho7, hg7, hf7⟩ := app_ed w.heap.size _ _ _ (own_keep KL.out.own B6.out) ⟨g5, 0, none⟩ ⟨a7, p7, o7, c7, O7, p8, n8, c8, N8⟩ C6.out (by have := FS.out; omega) (Nat.le_trans KL.out.bel.size B6.out.size)
      have hL7 := KL.out.snoc B6.out O6.out hg7 ho7 hf7
      have KX7 : Hid (Blk w7 Bx 77 #[.int .i64 xa, .slice p1 o c1, .slice p2 n2 c2]) := KX6.out.grown hg7 (fun e => FB.out Bx e.symm rfl)
      have KV7 : Hid (Blk w7 (q + 1) 38 #[.slice va F.length vc]) := KV6.out.grown hg7 (fun e => (FV.out (q + 1) e.symm).1 rfl)
      have L7 := mkH hL7
      have G7 := mkH hg7
      have F7 := mkH hf7
      obtain ⟨va7, vc7, ev7, -, -⟩ := hL7.edz
      obtain ⟨fl, hfl⟩ : ∃ fl, fl = (F ++ [(⟨a7, p7, o7, c7, O7, p8, n8, c8, N8⟩ : Er)]).length := ⟨_, rfl⟩
      rw [← hfl] at ev7
      subst ev7
      clear hfl
      refine st_ed rfl _ _ rfl _ _ rfl rfl (fun ty => hr7 ty 1) ?_
      clear hr7 ho7 hg7 hf7 hL7
      refine hK _ _ ⟨KX7.out, ?_⟩
      clear hK K
      try simp only [Act.put, jj1, jj2, jj3, jj4, jj5, jj6]
      refine wpAnyH_all (rs := [10]) (by kernel_rfl) (by simp) (AllH.cons rfl (fun K hK => ?_) AllH.nil)
      have x0 : w7.cell? ⟨q + 1, 0, none⟩ = some (.slice va F.length vc) := blk_cell1 KV7.out
      have f0 : w7.frozen? ⟨q + 1, 0, none⟩ = false := KV7.out.frozen _
      go_simp
      refine hK _ _ ⟨KX7.out.off (by have := FS.out; omega) _, ?_⟩
      clear hK K
      try simp only [Act.put, jj1, jj2, jj3, jj4, jj5, jj6]
      refine wpAnyH_done (by kernel_rfl) ?_ _
      have fs := FS.out
      have hsz4 : V4.heap.size = W.heap.size := HV4.out
      have hg8 : w7.grownBy (w7.setCell ⟨q + 1, 0, none⟩ (.slice va7 fl vc7)) (some (q + 1)) := grown_set _ _ _ _
      have hnewrow : ∀ g, (Value.slice va7 fl vc7).ownBlock = some g → (Value.slice va F.length vc).ownBlock = some g ∨ W.heap.size ≤ g := fun g hg => by
        rcases F7.out with e | ⟨q', e, hq'⟩
        · exact .inl (e.symm.trans hg)
        · rw [e] at hg; injection hg with hg; have := B6.out.size; right; omega
      have hnewtx : ∀ (i : Nat) (r : Rw), (rowsE (F ++ [(⟨a7, p7, o7, c7, O7, p8, n8, c8, N8⟩ : Er)]))[i]? = some r → ∀ g, r.v.ownBlock = some g → (∃ j, (rowsE F)[j]? = some r) ∨ W.heap.size ≤ g := fun i r hi g hg => by
        rcases rowsE_of hi with h | h | h
        · exact .inl ⟨i, h⟩
        · subst h; right; have := (O6.out.t1.lt g hg).1; omega
        · subst h; right; have := (O6.out.t2.lt g hg).1; omega
      have hvne : ∀ g, (Value.slice va7 fl vc7).ownBlock = some g → g ≠ q + 1 ∧ g ≠ q + 2 := fun g hg => by
        rcases hnewrow g hg with h | h
        · exact FV.out g h
        · omega
      have hrne : ∀ (i : Nat) (r : Rw), (rowsE (F ++ [(⟨a7, p7, o7, c7, O7, p8, n8, c8, N8⟩ : Er)]))[i]? = some r → ∀ g, r.v.ownBlock = some g → g ≠ q + 1 := fun i r hi g hg => by
        rcases hnewtx i r hi g hg with ⟨j, h⟩ | h
        · exact FR.out j r h g hg
        · omega
      refine ⟨⟨?_, fun k hk hr => ?_⟩, ⟨⟨_, _, KV7.out.set _, ⟨L7.out.rws.off hg8 (fun i r hi g hg => ?_) (by omega), L7.out.bnd⟩, fun i r hi g hg => ?_, ?_, hvne, hrne⟩, ⟨by omega, by omega⟩⟩⟩
      · have := B6.out.size; have := G7.out.size; have := hg8.size; omega
      · have hk4 : k < V4.heap.size := by omega
        have hkq : k ≠ q + 1 := by rcases hr with (hr | hr) | hr <;> omega
        have hkv : some k ≠ (Value.slice va F.length vc).ownBlock := fun e => by
          have h1 := FO.out 0 _ rfl k e.symm
          have h2 := FV.out k e.symm
          have h3 := (KL.out.own.lt k e.symm).1
          rcases hr with (hr | hr) | hr <;> omega
        rw [hg8.block k (by have := B6.out.size; have := G7.out.size; omega) (fun e => by injection e with e; omega), G7.out.block k (by have := B6.out.size; omega) hkv, B6.out.block k hk4]
        exact HV5.out k
      · rcases cons_at hi with ⟨_, rfl⟩ | ⟨j, _, hj⟩
        · exact (hvne g hg).1
        · exact hrne j r hj g hg
      · rcases cons_at hi with ⟨_, rfl⟩ | ⟨j, _, hj⟩
        · rcases hnewrow g hg with h | h
          · exact FO.out 0 _ rfl g h
          · omega
        · rcases hnewtx j r hj g hg with ⟨j2, h⟩ | h
          · exact FO.out (j2 + 1) r (by simpa using h) g hg
          · omega
      · rw [List.map_append, FF.out]; show _ ++ [_] = _; rw [D5.out]; simp [swp, Er.d]
    · skip
      go_simp
      refine (CE.out V4 LW.out).mono ?_
      rintro e w5 ⟨r5, rfl, hd5, hO5, hb5⟩
      have O5 := mkH hO5
      have D5 := mkH hd5
      have B5 := mkH hb5
      have KX5 := mkH (KX.out.keep hb5)
      have KV5 := mkH (KV.out.keep hb5)
      obtain ⟨a7, p7, o7, c7, O7, p8, n8, c8, N8⟩ := r5
      clear hO5 hd5 hb5
      dsimp only [Er.cs]
      refine hK _ _ ⟨KX5.out, ?_⟩
      clear hK K
      try simp only [Act.put, jj1, jj2, jj3, jj4, jj5, jj6]
      refine wpAnyH_all (rs := [0, 8]) (by kernel_rfl) (by simp) (AllH.cons rfl (fun K hK => ?_) (AllH.cons rfl (fun K hK => ?_) AllH.nil))
      · skip
        have x0 : w5.cell? ⟨q + 1, 0, none⟩ = some (.slice va F.length vc) := blk_cell1 KV5.out
        go_simp
        clear x0
        refine hK _ _ ⟨KX5.out, ?_⟩
        clear hK K
        try simp only [Act.put, jj1, jj2, jj3, jj4, jj5, jj6]
        refine wpAnyH_all (rs := [8]) (by kernel_rfl) (by simp) (AllH.cons rfl (fun K hK => ?_) AllH.nil)
        go_simp
        have B6 : Hid (Below V4.heap.size V4 (w5.alloc (.cells #[.int .i64 a7, .slice p7 o7 c7, .slice p8 n8 c8] 77))) := bT B5.out (bAlloc (Below.refl _ _) _)
        have O6 : Hid (Oe (w5.alloc (.cells #[.int .i64 a7, .slice p7 o7 c7, .slice p8 n8 c8] 77)) V4.heap.size ⟨a7, p7, o7, c7, O7, p8, n8, c8, N8⟩) := O5.out.keep (bAlloc (Below.refl _ _) _)
        have C6 : Hid (∀ (j : Nat) (u : Value), (Er.cs ⟨a7, p7, o7, c7, O7, p8, n8, c8, N8⟩).toList[j]? = some u → (w5.alloc (.cells #[.int .i64 a7, .slice p7 o7 c7, .slice p8 n8 c8] 77)).cell? ((⟨w5.heap.size, 0, none⟩ : Addr).add j) = some u) := fun j u hj => lit_cells w5 _ 77 j u hj
        have KX6 := mkH (KX.out.keep B6.out)
        have KV6 := mkH (KV.out.keep B6.out)
        obtain ⟨g5, hg5⟩ : ∃ g5, g5 = w5.heap.size := ⟨_, rfl⟩
        rw [← hg5] at C6 ⊢
        clear hg5 O5 B5 KX5 KV5
        generalize w5.alloc (.cells #[.int .i64 a7, .slice p7 o7 c7, .slice p8 n8 c8] 77) = w6 at *
        refine hK _ _ ⟨KX6.out, ?_⟩
        clear hK K
        try simp only [Act.put, jj1, jj2, jj3, jj4, jj5, jj6]
        refine wpAnyH_all (rs := [9]) (by kernel_rfl) (by simp) (AllH.cons rfl (fun K hK => ?_) AllH.nil)
        obtain ⟨v', w7, hr7, ho7, hg7, hf7⟩ := app_ed w.heap.size _ _ _ (own_keep KL.out.own B6.out) ⟨g5, 0, none⟩ ⟨a7, p7, o7, c7, O7, p8, n8, c8, N8⟩ C6.out (by have := FS.out; omega) (Nat.le_trans KL.out.bel.size B6.out.size)
        have hL7 := KL.out.snoc B6.out O6.out hg7 ho7 hf7
        have KX7 : Hid (Blk w7 Bx 77 #[.int .i64 xa, .slice p1 o c1, .slice p2 n2 c2]) := KX6.out.grown hg7 (fun e => FB.out Bx e.symm rfl)
        have KV7 : Hid (Blk w7 (q + 1) 38 #[.slice va F.length vc]) := KV6.out.grown hg7 (fun e => (FV.out (q + 1) e.symm).1 rfl)
        have L7 := mkH hL7
        have G7 := mkH hg7
        have F7 := mkH hf7
        obtain ⟨va7, vc7, ev7, -, -⟩ := hL7.edz
        obtain ⟨fl, hfl⟩ : ∃ fl, fl = (F ++ [(⟨a7, p7, o7, c7, O7, p8, n8, c8, N8⟩ : Er)]).length := ⟨_, rfl⟩
        rw [← hfl] at ev7
        subst ev7
        clear hfl
        refine st_ed rfl _ _ rfl _ _ rfl rfl (fun ty => hr7 ty 1) ?_
        clear hr7 ho7 hg7 hf7 hL7
        refine hK _ _ ⟨KX7.out, ?_⟩
        clear hK K
        try simp only [Act.put, jj1, jj2, jj3, jj4, jj5, jj6]
        refine wpAnyH_all (rs := [10]) (by kernel_rfl) (by simp) (AllH.cons rfl (fun K hK => ?_) AllH.nil)
        have x0 : w7.cell? ⟨q + 1, 0, none⟩ = some (.slice va F.length vc) := blk_cell1 KV7.out
        have f0 : w7.frozen? ⟨q + 1, 0, none⟩ = false := KV7.out.frozen _
        go_simp
        refine hK _ _ ⟨KX7.out.off (by have := FS.out; omega) _, ?_⟩
        clear hK K
        try simp only [Act.put, jj1, jj2, jj3, jj4, jj5, jj6]
        refine wpAnyH_done (by kernel_rfl) ?_ _
        have fs := FS.out
        have hsz4 : V4.heap.size = W.heap.size := HV4.out
        have hg8 : w7.grownBy (w7.setCell ⟨q + 1, 0, none⟩ (.slice va7 fl vc7)) (some (q + 1)) := grown_set _ _ _ _
        have hnewrow : ∀ g, (Value.slice va7 fl vc7).ownBlock = some g → (Value.slice va F.length vc).ownBlock = some g ∨ W.heap.size ≤ g := fun g hg => by
          rcases F7.out with e | ⟨q', e, hq'⟩
          · exact .inl (e.symm.trans hg)
          · rw [e] at hg; injection hg with hg; have := B6.out.size; right; omega
        have hnewtx : ∀ (i : Nat) (r : Rw), (rowsE (F ++ [(⟨a7, p7, o7, c7, O7, p8, n8, c8, N8⟩ : Er)]))[i]? = some r → ∀ g, r.v.ownBlock = some g → (∃ j, (rowsE F)[j]? = some r) ∨ W.heap.size ≤ g := fun i r hi g hg => by
          rcases rowsE_of hi with h | h | h
          · exact .inl ⟨i, h⟩
          · subst h; right; have := (O6.out.t1.lt g hg).1; omega
          · subst h; right; have := (O6.out.t2.lt g hg).1; omega
        have hvne : ∀ g, (Value.slice va7 fl vc7).ownBlock = some g → g ≠ q + 1 ∧ g ≠ q + 2 := fun g hg => by
          rcases hnewrow g hg with h | h
          · exact FV.out g h
          · omega
        have hrne : ∀ (i : Nat) (r : Rw), (rowsE (F ++ [(⟨a7, p7, o7, c7, O7, p8, n8, c8, N8⟩ : Er)]))[i]? = some r → ∀ g, r.v.ownBlock = some g → g ≠ q + 1 := fun i r hi g hg => by
          rcases hnewtx i r hi g hg with ⟨j, h⟩ | h
          · exact FR.out j r h g hg
          · omega
        refine ⟨⟨?_, fun k hk hr => ?_⟩, ⟨⟨_, _, KV7.out.set _, ⟨L7.out.rws.off hg8 (fun i r hi g hg => ?_) (by omega), L7.out.bnd⟩, fun i r hi g hg => ?_, ?_, hvne, hrne⟩, ⟨by omega, by omega⟩⟩⟩
        · have := B6.out.size; have := G7.out.size; have := hg8.size; omega
        · have hk4 : k < V4.heap.size := by omega
          have hkq : k ≠ q + 1 := by rcases hr with (hr | hr) | hr <;> omega
          have hkv : some k ≠ (Value.slice va F.length vc).ownBlock := fun e => by
            have h1 := FO.out 0 _ rfl k e.symm
            have h2 := FV.out k e.symm
            have h3 := (KL.out.own.lt k e.symm).1
            rcases hr with (hr | hr) | hr <;> omega
          rw [hg8.block k (by have := B6.out.size; have := G7.out.size; omega) (fun e => by injection e with e; omega), G7.out.block k (by have := B6.out.size; omega) hkv, B6.out.block k hk4]
          exact HV5.out k
        · rcases cons_at hi with ⟨_, rfl⟩ | ⟨j, _, hj⟩
          · exact (hvne g hg).1
          · exact hrne j r hj g hg
        · rcases cons_at hi with ⟨_, rfl⟩ | ⟨j, _, hj⟩
          · rcases hnewrow g hg with h | h
            · exact FO.out 0 _ rfl g h
            · omega
          · rcases hnewtx j r hj g hg with ⟨j2, h⟩ | h
            · exact FO.out (j2 + 1) r (by simpa using h) g hg
            · omega
        · rw [List.map_append, FF.out]; show _ ++ [_] = _; rw [D5.out]; simp [swp, Er.d]
      · skip
        go_simp
        have B6 : Hid (Below V4.heap.size V4 (w5.alloc (.cells #[.int .i64 a7, .slice p7 o7 c7, .slice p8 n8 c8] 77))) := bT B5.out (bAlloc (Below.refl _ _) _)
        have O6 : Hid (Oe (w5.alloc (.cells #[.int .i64 a7, .slice p7 o7 c7, .slice p8 n8 c8] 77)) V4.heap.size ⟨a7, p7, o7, c7, O7, p8, n8, c8, N8⟩) := O5.out.keep (bAlloc (Below.refl _ _) _)
        have C6 : Hid (∀ (j : Nat) (u : Value), (Er.cs ⟨a7, p7, o7, c7, O7, p8, n8, c8, N8⟩).toList[j]? = some u → (w5.alloc (.cells #[.int .i64 a7, .slice p7 o7 c7, .slice p8 n8 c8] 77)).cell? ((⟨w5.heap.size, 0, none⟩ : Addr).add j) = some u) := fun j u hj => lit_cells w5 _ 77 j u hj
        have KX6 := mkH (KX.out.keep B6.out)
        have KV6 := mkH (KV.out.keep B6.out)
        obtain ⟨g5, hg5⟩ : ∃ g5, g5 = w5.heap.size := ⟨_, rfl⟩
        rw [← hg5] at C6 ⊢
        clear hg5 O5 B5 KX5 KV5
        generalize w5.alloc (.cells #[.int .i64 a7, .slice p7 o7 c7, .slice p8 n8 c8] 77) = w6 at *
        refine hK _ _ ⟨KX6.out, ?_⟩
        clear hK K
        try simp only [Act.put, jj1, jj2, jj3, jj4, jj5, jj6]
        refine wpAnyH_all (rs := [0]) (by kernel_rfl) (by simp) (AllH.cons rfl (fun K hK => ?_) AllH.nil)
        have x0 : w6.cell? ⟨q + 1, 0, none⟩ = some (.slice va F.length vc) := blk_cell1 KV6.out
        go_simp
        clear x0
        refine hK _ _ ⟨KX6.out, ?_⟩
        clear hK K
        try simp only [Act.put, jj1, jj2, jj3, jj4, jj5, jj6]
        refine wpAnyH_all (rs := [9]) (by kernel_rfl) (by simp) (AllH.cons rfl (fun K hK => ?_) AllH.nil)
        obtain ⟨v', w7, hr7, ho7, hg7, hf7⟩ := app_ed w.heap.size _ _ _ (own_keep KL.out.own B6.out) ⟨g5, 0, none⟩ ⟨a7, p7, o7, c7, O7, p8, n8, c8, N8⟩ C6.out (by have := FS.out; omega) (Nat.le_trans KL.out.bel.size B6.out.size)
        have hL7 := KL.out.snoc B6.out O6.out hg7 ho7 hf7
        have KX7 : Hid (Blk w7 Bx 77 #[.int .i64 xa, .slice p1 o c1, .slice p2 n2 c2]) := KX6.out.grown hg7 (fun e => FB.out Bx e.symm rfl)
        have KV7 : Hid (Blk w7 (q + 1) 38 #[.slice va F.length vc]) := KV6.out.grown hg7 (fun e => (FV.out (q + 1) e.symm).1 rfl)
        have L7 := mkH hL7
        have G7 := mkH hg7
        have F7 := mkH hf7
        obtain ⟨va7, vc7, ev7, -, -⟩ := hL7.edz
        obtain ⟨fl, hfl⟩ : ∃ fl, fl = (F ++ [(⟨a7, p7, o7, c7, O7, p8, n8, c8, N8⟩ : Er)]).length := ⟨_, rfl⟩
        rw [← hfl] at ev7
        subst ev7
        clear hfl
        refine st_ed rfl _ _ rfl _ _ rfl rfl (fun ty => hr7 ty 1) ?_
        clear hr7 ho7 hg7 hf7 hL7
        refine hK _ _ ⟨KX7.out, ?_⟩
        clear hK K
        try simp only [Act.put, jj1, jj2, jj3, jj4, jj5, jj6]
        refine wpAnyH_all (rs := [10]) (by kernel_rfl) (by simp) (AllH.cons rfl (fun K hK => ?_) AllH.nil)
        have x0 : w7.cell? ⟨q + 1, 0, none⟩ = some (.slice va F.length vc) := blk_cell1 KV7.out
        have f0 : w7.frozen? ⟨q + 1, 0, none⟩ = false := KV7.out.frozen _
        go_simp
        refine hK _ _ ⟨KX7.out.off (by have := FS.out; omega) _, ?_⟩
        clear hK K
        try simp only [Act.put, jj1, jj2, jj3, jj4, jj5, jj6]
        refine wpAnyH_done (by kernel_rfl) ?_ _
        have fs := FS.out
        have hsz4 : V4.heap.size = W.heap.size := HV4.out
        have hg8 : w7.grownBy (w7.setCell ⟨q + 1, 0, none⟩ (.slice va7 fl vc7)) (some (q + 1)) := grown_set _ _ _ _
        have hnewrow : ∀ g, (Value.slice va7 fl vc7).ownBlock = some g → (Value.slice va F.length vc).ownBlock = some g ∨ W.heap.size ≤ g := fun g hg => by
          rcases F7.out with e | ⟨q', e, hq'⟩
          · exact .inl (e.symm.trans hg)
          · rw [e] at hg; injection hg with hg; have := B6.out.size; right; omega
        have hnewtx : ∀ (i : Nat) (r : Rw), (rowsE (F ++ [(⟨a7, p7, o7, c7, O7, p8, n8, c8, N8⟩ : Er)]))[i]? = some r → ∀ g, r.v.ownBlock = some g → (∃ j, (rowsE F)[j]? = some r) ∨ W.heap.size ≤ g := fun i r hi g hg => by
          rcases rowsE_of hi with h | h | h
          · exact .inl ⟨i, h⟩
          · subst h; right; have := (O6.out.t1.lt g hg).1; omega
          · subst h; right; have := (O6.out.t2.lt g hg).1; omega
        have hvne : ∀ g, (Value.slice va7 fl vc7).ownBlock = some g → g ≠ q + 1 ∧ g ≠ q + 2 := fun g hg => by
          rcases hnewrow g hg with h | h
          · exact FV.out g h
          · omega
        have hrne : ∀ (i : Nat) (r : Rw), (rowsE (F ++ [(⟨a7, p7, o7, c7, O7, p8, n8, c8, N8⟩ : Er)]))[i]? = some r → ∀ g, r.v.ownBlock = some g → g ≠ q + 1 := fun i r hi g hg => by
          rcases hnewtx i r hi g hg with ⟨j, h⟩ | h
          · exact FR.out j r h g hg
          · omega
        refine ⟨⟨?_, fun k hk hr => ?_⟩, ⟨⟨_, _, KV7.out.set _, ⟨L7.out.rws.off hg8 (fun i r hi g hg => ?_) (by omega), L7.out.bnd⟩, fun i r hi g hg => ?_, ?_, hvne, hrne⟩, ⟨by omega, by omega⟩⟩⟩
        · have := B6.out.size; have := G7.out.size; have := hg8.size; omega
        · have hk4 : k < V4.heap.size := by omega
          have hkq : k ≠ q + 1 := by rcases hr with (hr | hr) | hr <;> omega
          have hkv : some k ≠ (Value.slice va F.length vc).ownBlock := fun e => by
            have h1 := FO.out 0 _ rfl k e.symm
            have h2 := FV.out k e.symm
            have h3 := (KL.out.own.lt k e.symm).1
            rcases hr with (hr | hr) | hr <;> omega
          rw [hg8.block k (by have := B6.out.size; have := G7.out.size; omega) (fun e => by injection e with e; omega), G7.out.block k (by have := B6.out.size; omega) hkv, B6.out.block k hk4]
          exact HV5.out k
        · rcases cons_at hi with ⟨_, rfl⟩ | ⟨j, _, hj⟩
          · exact (hvne g hg).1
          · exact hrne j r hj g hg
        · rcases cons_at hi with ⟨_, rfl⟩ | ⟨j, _, hj⟩
          · rcases hnewrow g hg with h | h
            · exact FO.out 0 _ rfl g h
            · omega
          · rcases hnewtx j r hj g hg with ⟨j2, h⟩ | h
            · exact FO.out (j2 + 1) r (by simpa using h) g hg
            · omega
        · rw [List.map_append, FF.out]; show _ ++ [_] = _; rw [D5.out]; simp [swp, Er.d]
  case done =>
    rintro W ⟨⟨v, F, hv, hL, hO, hF, -, -⟩, hlo⟩ hD
    have hc := blk_cell1 hv
    gi_wp2
    refine ⟨by simp, .inl ⟨_, _, rfl, run_takeDeferred hD, ?_⟩⟩
    refine ⟨_, results_tmp rfl _ _ _, ?_⟩
    have hk := Kept.put (lo := w2.heap.size) (hi := w2.heap.size + 2 + 0) W w2.heap.size (.deferred none) (Nat.le_refl _) (by omega)
    refine ⟨v, F, rfl, ?_, hL.rws.kept hk hO HQW.out, hL.bnd⟩
    rw [hF]
    unfold inv
    rw [List.map_reverse, List.map_reverse]
end Go.Proofs.Ytaahklapoppgaaa

