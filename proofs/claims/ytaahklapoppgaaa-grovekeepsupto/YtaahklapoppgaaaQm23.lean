/- Rows of ints of one's own; slices.Reverse. -/
import Derived.Test.YtaahklapoppgaaaQm11
import Derived.Maps.OwnSet
import Derived.Maps.OwnOps
import Derived.Test.YtaahklapoppgaaaQm21
import Derived.Test.YtaahklapoppgaaaQm22
namespace Go.Proofs.Ytaahklapoppgaaa
open Go.RowKit

set_option maxRecDepth 8000
theorem info3 : (Try.prog.info? 3).map (fun i => (i.zero, i.size, i.bytes)) = some (some (.int .i64 0), 1, 8) := by kernel_rfl
/-- numbers as cells -/
def iv (l : List Nat) : List Value := l.map fun (x : Nat) => .int .i64 (x : Int)
theorem iv_length (l : List Nat) : (iv l).length = l.length := by simp [iv]
theorem iv_append (a b : List Nat) : iv (a ++ b) = iv a ++ iv b := by simp [iv]
theorem iv_one (l : List Nat) : ∀ u ∈ iv l, u.oneCell' = true := by
  intro u hu
  obtain ⟨x, _, rfl⟩ := List.mem_map.1 hu
  rfl
theorem iv_at {l : List Nat} {k x : Nat} (h : l[k]? = some x) : (iv l)[k]? = some (.int .i64 (x : Int)) := by simp [iv, h]
theorem iv_set (l : List Nat) (k x : Nat) : (iv l).set k (.int .i64 (x : Int)) = iv (l.set k x) := by unfold iv; rw [List.map_set]
/-- ints that can be read -/
def Ix (W : World) (ao : Option Addr) (l : List Nat) : Prop := ∀ (k x : Nat), l[k]? = some x → ∃ g o, ao = some ⟨g, o, none⟩ ∧ W.cell? ⟨g, o + k, none⟩ = some (.int .i64 (x : Int))
theorem Ix.keep {W W' : World} {ao : Option Addr} {l : List Nat} (h : Ix W ao l) (hb : Below W.heap.size W W') : Ix W' ao l := fun k x hk => by
  obtain ⟨g, o, h1, h2⟩ := h k x hk
  exact ⟨g, o, h1, cell_keep h2 hb⟩
theorem own_ix {W : World} {base n c : Nat} {ao : Option Addr} {l : List Nat} (h : W.ownsRow base 3 1 (.slice ao n c) n (iv l)) : Ix W ao l := fun k x hk => by
  have hl : l.length = n := by have := h.1; rw [iv_length] at this; omega
  have hk' := (List.getElem?_eq_some_iff.1 hk).1
  rcases h.2 with ⟨e, e2⟩ | ⟨g, cap, cur, e, h1, h2, h3, h4, h5, h6⟩
  · omega
  · simp at e
    obtain ⟨rfl, rfl⟩ := e
    exact ⟨g, 0, rfl, by rw [Nat.zero_add, h.cellAt k (by omega)]; exact iv_at hk⟩
/-- reversed at both ends -/
def rvL (l : List Nat) (i : Nat) : List Nat := (List.range l.length).map fun k => if k < i ∨ l.length - i ≤ k then l.getD (l.length - 1 - k) 0 else l.getD k 0
theorem rvL_len (l : List Nat) (i : Nat) : (rvL l i).length = l.length := by simp [rvL]
theorem rvL_at {l : List Nat} {i k : Nat} (h : k < l.length) : (rvL l i)[k]? = some (if k < i ∨ l.length - i ≤ k then l.getD (l.length - 1 - k) 0 else l.getD k 0) := by
  unfold rvL
  rw [List.getElem?_map, List.getElem?_range h]; rfl
theorem rvL_zero (l : List Nat) : rvL l 0 = l := by
  apply List.ext_getElem?
  intro k
  by_cases h : k < l.length
  · rw [rvL_at h, if_neg (by omega)]; simp [List.getD, h]
  · rw [List.getElem?_eq_none (by rw [rvL_len]; omega), List.getElem?_eq_none (by omega)]
theorem rvL_done {l : List Nat} {i : Nat} (h : l.length ≤ 2 * i + 1) : rvL l i = l.reverse := by
  apply List.ext_getElem?
  intro k
  by_cases hk : k < l.length
  · rw [rvL_at hk, List.getElem?_reverse hk]
    by_cases h2 : k < i ∨ l.length - i ≤ k
    · rw [if_pos h2, List.getElem?_eq_getElem (by omega)]; simp [List.getD, show l.length - 1 - k < l.length by omega]
    · rw [if_neg h2]
      have e : l.length - 1 - k = k := by omega
      rw [e]; simp [List.getD, hk]
  · rw [List.getElem?_eq_none (by rw [rvL_len]; omega), List.getElem?_eq_none (by simp; omega)]
theorem rvL_step {l : List Nat} {i j : Nat} (hj : i + j + 1 = l.length) (hij : i < j) : ((rvL l i).set i (l.getD j 0)).set j (l.getD i 0) = rvL l (i + 1) := by
  apply List.ext_getElem?
  intro k
  rw [List.getElem?_set, List.getElem?_set]
  by_cases hk : k < l.length
  · rw [rvL_at hk, rvL_at hk]
    simp only [List.length_set, rvL_len]
    by_cases e1 : j = k
    · subst e1
      rw [if_pos rfl, if_pos hk, if_pos (by omega), show l.length - 1 - j = i by omega]
    · rw [if_neg e1]
      by_cases e2 : i = k
      · subst e2
        rw [if_pos rfl, if_pos hk, if_pos (by omega), show l.length - 1 - i = j by omega]
      · rw [if_neg e2]
        by_cases h3 : k < i ∨ l.length - i ≤ k
        · rw [if_pos h3, if_pos (by omega)]
        · rw [if_neg h3, if_neg (by omega)]
  · rw [if_neg (by omega), if_neg (by omega), List.getElem?_eq_none (by rw [rvL_len]; omega), List.getElem?_eq_none (by rw [rvL_len]; omega)]
set_option maxHeartbeats 8000000 in
set_option linter.unusedSimpArgs false in
theorem reverse_any (v : Value) (n base : Nat) (l : List Nat) (w : World) (HO : Hid (w.ownsRow base 3 1 v n (iv l))) (hb : n ≤ 4097) : Calls Try.prog 66 #[v] w fun e w' => (∃ u, e = .returned u) ∧ w'.ownsRow base 3 1 v n (iv l.reverse) ∧ w.grownBy w' v.ownBlock := by
  have hl : Hid (l.length = n) := by have := HO.out.1; rw [iv_length] at this; unfold Hid; omega
  obtain ⟨ao, c, rfl⟩ := own_shape HO.out
  have hw0 : IntKind.i64.wrap ((n : Int) - 1) = (n : Int) - 1 := by rw [IntKind.wrap_i64]; omega
  go_enter Try.func66, Try.ntmps66
  go_wp2_with fail
  go_loopg [2, 3] n (fun m x2 x3 wx => ∃ i : Nat, x2 = .int .i64 (i : Int) ∧ x3 = .int .i64 ((n : Int) - 1 - (i : Int)) ∧ i + m = n ∧ Hid (wx.ownsRow base 3 1 (.slice ao n c) n (iv (rvL l i))) ∧ Hid (w.grownBy wx (Value.slice ao n c).ownBlock))
  case atStart => exact ⟨0, rfl, by simp, by omega, by rw [rvL_zero]; exact HO.out, ⟨rfl, rfl, rfl, Nat.le_refl _, fun _ _ _ => rfl⟩⟩
  case round =>
    obtain ⟨i, rfl, rfl, him, KO, KG⟩ := hrel
    by_cases hij : (i : Int) < (n : Int) - 1 - (i : Int)
    · obtain ⟨j, hj⟩ : ∃ j : Nat, (n : Int) - 1 - (i : Int) = (j : Int) := ⟨n - 1 - i, by omega⟩
      rw [hj] at hij ⊢
      have HJ : Hid (i + j + 1 = n) := by unfold Hid; omega
      have hIJ : Hid (i < j) := by unfold Hid; omega
      obtain ⟨g, cap, hv, -, -⟩ := own_some KO.out (by omega)
      simp only [Value.slice.injEq] at hv
      obtain ⟨rfl, -, rfl⟩ := hv
      have hi1 : (i : Int) < (n : Int) := by omega
      have hj1 : (j : Int) < (n : Int) := by omega
      have hi0 : (0 : Int) ≤ (i : Int) := by omega
      have hj0 : (0 : Int) ≤ (j : Int) := by omega
      have ci0 := KO.out.cellAt i (by omega)
      have cj0 := KO.out.cellAt j (by omega)
      rw [iv_at (rvL_at (by rw [hl.out]; omega)), if_neg (by rw [hl.out]; omega)] at ci0
      rw [iv_at (rvL_at (by rw [hl.out]; omega)), if_neg (by rw [hl.out]; omega)] at cj0
      have hst := rvL_step (l := l) (i := i) (j := j) (by rw [hl.out]; exact HJ.out) hIJ.out
      generalize l.getD i 0 = a at *
      generalize l.getD j 0 = b at *
      have HST := mkH hst
      have CI : Hid (wr.drew.cell? ⟨g, i, none⟩ = some (.int .i64 (a : Int))) := ci0
      have CJ : Hid (wr.drew.cell? ⟨g, j, none⟩ = some (.int .i64 (b : Int))) := cj0
      have KD : Hid (wr.drew.ownsRow base 3 1 (.slice (some ⟨g, 0, none⟩) n c) n (iv (rvL l i))) := own_keep KO.out (Below.refl _ _).drew
      have GD : Hid (w.grownBy wr.drew (Value.slice (some ⟨g, 0, none⟩) n c).ownBlock) := ⟨KG.out.os, KG.out.tape, KG.out.output, KG.out.size, KG.out.block⟩
      have hw1 : IntKind.i64.wrap ((i : Int) + 1) = ((i + 1 : Nat) : Int) := by rw [IntKind.wrap_i64]; omega
      have hw2 : IntKind.i64.wrap ((j : Int) - 1) = (j : Int) - 1 := by rw [IntKind.wrap_i64]; omega
      have f0 : ∀ k, wr.drew.frozen? ⟨g, k, none⟩ = false := fun k => KD.out.frozenAt k
      have F0 := mkH f0
      clear hst ci0 cj0 KO KG f0 HO
      go_upto_region 3 with fail
      refine wp_region_held (S := fun w' => True) (by kernel_rfl) ?_
      change wpAnyH _ _ _ _ _ _ _ _ (World.drew _)
      generalize wr.drew = V3 at *
      refine tk 0 (.slice (some ⟨g, 0, none⟩) n c) trivial ?_
      refine tk 1 (.int .i64 (i : Int)) trivial ?_
      refine tk 2 (.slice (some ⟨g, 0, none⟩) n c) trivial ?_
      refine tk 3 (.int .i64 (j : Int)) trivial ?_
      try simp only [Act.put, jj1, jj2, jj3, jj4, jj5, jj6]
      refine tk 4 (.slice (some ⟨g, 0, none⟩) n c) trivial ?_
      refine tk 5 (.int .i64 (j : Int)) trivial ?_
      refine tk 6 (.pointer (some ⟨g, j, none⟩)) trivial ?_
      refine tk 8 (.slice (some ⟨g, 0, none⟩) n c) trivial ?_
      try simp only [Act.put, jj1, jj2, jj3, jj4, jj5, jj6]
      refine tk 9 (.int .i64 (i : Int)) trivial ?_
      refine tk 10 (.pointer (some ⟨g, i, none⟩)) trivial ?_
      try simp only [Act.put, jj1, jj2, jj3, jj4, jj5, jj6]
      refine wpAnyH_all (rs := [7, 11]) (by kernel_rfl) (by simp) (AllH.cons rfl (fun K hK => ?_) (AllH.cons rfl (fun K hK => ?_) AllH.nil))
      · skip
        have c0 := CJ.out
        go_simp
        refine hK _ _ ⟨trivial, ?_⟩
        clear hK K
        try simp only [Act.put, jj1, jj2, jj3, jj4, jj5, jj6]
        refine wpAnyH_all (rs := [11]) (by kernel_rfl) (by simp) (AllH.cons rfl (fun K hK => ?_) AllH.nil)
        have c0 := CI.out
        go_simp
        refine hK _ _ ⟨trivial, ?_⟩
        clear hK K
        refine tk 12 (.pointer (some ⟨g, i, none⟩)) trivial ?_
        try simp only [Act.put, jj1, jj2, jj3, jj4, jj5, jj6]
        refine wpAnyH_all (rs := [13]) (by kernel_rfl) (by simp) (AllH.cons rfl (fun K hK => ?_) AllH.nil)
        have c0 := CI.out
        have f0 := F0.out i
        go_simp
        refine hK _ _ ⟨trivial, ?_⟩
        clear hK K
        refine tk 14 (.pointer (some ⟨g, j, none⟩)) trivial ?_
        try simp only [Act.put, jj1, jj2, jj3, jj4, jj5, jj6]
        refine wpAnyH_all (rs := [15]) (by kernel_rfl) (by simp) (AllH.cons rfl (fun K hK => ?_) AllH.nil)
        have c0 : (V3.setCell ⟨g, i, none⟩ (.int .i64 (b : Int))).cell? ⟨g, j, none⟩ = some (.int .i64 (b : Int)) := by rw [World.cell?_setCell_other _ _ _ _ (by intro e; injection e with _ e2; have := hIJ.out; omega)]; exact CJ.out
        have f0 : (V3.setCell ⟨g, i, none⟩ (.int .i64 (b : Int))).frozen? ⟨g, j, none⟩ = false := by simpa using F0.out j
        go_simp
        refine hK _ _ ⟨trivial, ?_⟩
        clear hK K
        try simp only [Act.put, jj1, jj2, jj3, jj4, jj5, jj6]
        refine wpAnyH_done (by kernel_rfl) ?_ _
        obtain ⟨o1, g1⟩ := KD.out.stored i (.int .i64 (b : Int))
        obtain ⟨o2, g2⟩ := o1.stored j (.int .i64 (a : Int))
        rw [iv_set, iv_set, HST.out] at o2
        have O2 := mkH o2
        have G2 := mkH (GD.out.trans (g1.trans g2))
        clear o1 g1 o2 g2 CI CJ KD GD F0
        generalize (V3.setCell ⟨g, i, none⟩ (.int .i64 (b : Int))).setCell ⟨g, j, none⟩ (.int .i64 (a : Int)) = w5 at *
        go_wp2
        go_roundg (gk - 1)
        case measure => omega
        case rel => exact ⟨i + 1, by go_num, by have := HJ.out; congr 1; omega, by omega, O2.out, G2.out⟩
      · skip
        have c0 := CI.out
        go_simp
        refine hK _ _ ⟨trivial, ?_⟩
        clear hK K
        try simp only [Act.put, jj1, jj2, jj3, jj4, jj5, jj6]
        refine wpAnyH_all (rs := [7]) (by kernel_rfl) (by simp) (AllH.cons rfl (fun K hK => ?_) AllH.nil)
        have c0 := CJ.out
        go_simp
        refine hK _ _ ⟨trivial, ?_⟩
        clear hK K
        try simp only [Act.put, jj1, jj2, jj3, jj4, jj5, jj6]
        refine tk 12 (.pointer (some ⟨g, i, none⟩)) trivial ?_
        try simp only [Act.put, jj1, jj2, jj3, jj4, jj5, jj6]
        refine wpAnyH_all (rs := [13]) (by kernel_rfl) (by simp) (AllH.cons rfl (fun K hK => ?_) AllH.nil)
        have c0 := CI.out
        have f0 := F0.out i
        go_simp
        refine hK _ _ ⟨trivial, ?_⟩
        clear hK K
        refine tk 14 (.pointer (some ⟨g, j, none⟩)) trivial ?_
        try simp only [Act.put, jj1, jj2, jj3, jj4, jj5, jj6]
        refine wpAnyH_all (rs := [15]) (by kernel_rfl) (by simp) (AllH.cons rfl (fun K hK => ?_) AllH.nil)
        have c0 : (V3.setCell ⟨g, i, none⟩ (.int .i64 (b : Int))).cell? ⟨g, j, none⟩ = some (.int .i64 (b : Int)) := by rw [World.cell?_setCell_other _ _ _ _ (by intro e; injection e with _ e2; have := hIJ.out; omega)]; exact CJ.out
        have f0 : (V3.setCell ⟨g, i, none⟩ (.int .i64 (b : Int))).frozen? ⟨g, j, none⟩ = false := by simpa using F0.out j
        go_simp
        refine hK _ _ ⟨trivial, ?_⟩
        clear hK K
        try simp only [Act.put, jj1, jj2, jj3, jj4, jj5, jj6]
        refine wpAnyH_done (by kernel_rfl) ?_ _
        obtain ⟨o1, g1⟩ := KD.out.stored i (.int .i64 (b : Int))
        obtain ⟨o2, g2⟩ := o1.stored j (.int .i64 (a : Int))
        rw [iv_set, iv_set, HST.out] at o2
        have O2 := mkH o2
        have G2 := mkH (GD.out.trans (g1.trans g2))
        clear o1 g1 o2 g2 CI CJ KD GD F0
        generalize (V3.setCell ⟨g, i, none⟩ (.int .i64 (b : Int))).setCell ⟨g, j, none⟩ (.int .i64 (a : Int)) = w5 at *
        go_wp2
        go_roundg (gk - 1)
        case measure => omega
        case rel => exact ⟨i + 1, by go_num, by have := HJ.out; congr 1; omega, by omega, O2.out, G2.out⟩
    · have HR : Hid (rvL l i = l.reverse) := rvL_done (by rw [hl.out]; omega)
      go_wp2
      go_end0
      exact ⟨⟨_, rfl⟩, by rw [← HR.out]; exact KO.out, KG.out⟩
end Go.Proofs.Ytaahklapoppgaaa

/- A map of parents, as what it holds; what is left of two ways. -/
namespace Go.Proofs.Ytaahklapoppgaaa
open Go.RowKit Go.Maps

def kl (x : Nat) : Lit := .int .i64 (x : Int)
theorem kl_ne {x y : Nat} (h : x ≠ y) : kl x ≠ kl y := fun e => h (by unfold kl at e; injection e with _ e; omega)
theorem kl_key (x : Nat) (_h : x < 4611686018427387904) : WideAt.IsKeyLit (kl x) := by
  unfold kl WideAt.IsKeyLit
  simp
theorem kl_wf {x : Nat} (h : x < 4611686018427387904) : (Lit.int .i64 (x : Int)).wf = true := WalkArith.wf_i64 (by omega)
/-- the map holds the parents of those in S -/
structure Mp (par : Nat → Nat) (D : DataW Unit) (S : List Nat) : Prop where
  td : Tidy D
  nd : S.Nodup
  bd : ∀ x ∈ S, x < 4611686018427387904
  hs : ∀ x, x < 4611686018427387904 → Maps.has D (kl x) = decide (x ∈ S)
  at_ : ∀ x ∈ S, D.atKey (kl x) (.lit (.int .i64 0)) = .lit (.int .i64 (par x : Int))
  sz : Maps.size D = S.length
theorem Mp.nil (par : Nat → Nat) : Mp par (.map []) [] := ⟨tidy_empty, List.nodup_nil, fun x hx => (by cases hx), fun x _ => by simp [Maps.has], fun x hx => (by cases hx), rfl⟩
theorem Mp.put {par : Nat → Nat} {D : DataW Unit} {S : List Nat} {x : Nat} (h : Mp par D S) (hx : x ∉ S) (hb : x < 4611686018427387904) : Mp par (D.put (kl x) (.lit (.int .i64 (par x : Int)))) (S ++ [x]) := by
  have hk := kl_key x hb
  refine ⟨h.td.put hk _, ?_, ?_, ?_, ?_, ?_⟩
  · rw [List.nodup_append]
    refine ⟨h.nd, by simp, fun a ha b hb' => ?_⟩
    simp at hb'; subst hb'
    intro e; subst e; exact hx ha
  · intro y hy
    rcases List.mem_append.1 hy with hy | hy
    · exact h.bd y hy
    · simp at hy; subst hy; exact hb
  · intro y hy
    by_cases e : y = x
    · subst e; rw [has_put_same h.td.isMap hk]; simp
    · rw [has_put_other (kl_ne e), h.hs y hy]
      apply decide_eq_decide.2
      simp [e]
  · intro y hy
    by_cases e : y = x
    · subst e; exact atKey_put_same h.td.isMap hk _ _
    · rw [atKey_put_other (kl_ne e)]
      exact h.at_ y (by simpa [e] using hy)
  · rw [size_put h.td, h.hs x hb, decide_eq_false hx, h.sz]
    simp
theorem Mp.del {par : Nat → Nat} {D : DataW Unit} {S : List Nat} {x : Nat} (h : Mp par D S) (hx : x ∈ S) : Mp par (D.del (kl x)) (S.erase x) := by
  have hb := h.bd x hx
  refine ⟨h.td.del _, h.nd.erase x, fun y hy => h.bd y (List.mem_of_mem_erase hy), ?_, ?_, ?_⟩
  · intro y hy
    by_cases e : y = x
    · subst e; rw [has_del_same]; simp [h.nd.mem_erase_iff]
    · rw [has_del_other (kl_ne e), h.hs y hy]
      apply decide_eq_decide.2
      simp [h.nd.mem_erase_iff, e]
  · intro y hy
    have hy' := (h.nd.mem_erase_iff).1 hy
    rw [atKey_del_other (kl_ne hy'.1)]
    exact h.at_ y hy'.2
  · have := size_del (k := kl x) h.td
    rw [h.hs x hb, decide_eq_true hx, h.sz] at this
    rw [List.length_erase_of_mem hx]
    simp at this
    omega
/-- what is left of A when those of b are struck -/
def lft (A b : List Nat) : List Nat := A.filter fun x => !b.contains x
theorem lft_nil (A : List Nat) : lft A [] = A := by simp [lft]
theorem mem_lft {A b : List Nat} {x : Nat} : x ∈ lft A b ↔ x ∈ A ∧ x ∉ b := by simp [lft]
theorem lft_snoc_not {A b : List Nat} {x : Nat} (h : x ∉ lft A b) : lft A (b ++ [x]) = lft A b := by
  unfold lft
  apply List.filter_congr
  intro y hy
  rw [mem_lft] at h
  by_cases e : y = x
  · subst e
    have : y ∈ b := by by_cases hb : y ∈ b; exact hb; exact absurd ⟨hy, hb⟩ h
    simp [this]
  · simp [e]
theorem lft_snoc {A b : List Nat} {x : Nat} (hn : A.Nodup) : lft A (b ++ [x]) = (lft A b).erase x := by
  have hl : (lft A b).Nodup := hn.filter _
  rw [hl.erase_eq_filter]
  unfold lft
  rw [List.filter_filter]
  apply List.filter_congr
  intro y hy
  by_cases e : y = x
  · subst e; simp
  · simp [e]
/-- those of b that are not in A, the last one first -/
def rgt (A b : List Nat) : List Nat := b.filter fun x => !A.contains x
theorem rgt_snoc_in {A b : List Nat} {x : Nat} (h : x ∈ A) : rgt A (b ++ [x]) = rgt A b := by simp [rgt, h]
theorem rgt_snoc_out {A b : List Nat} {x : Nat} (h : x ∉ A) : rgt A (b ++ [x]) = rgt A b ++ [x] := by simp [rgt, h]
theorem path_lft {G : List Nd} {i j : Nat} (hp : Low (pr G) G.length) (hi : i < G.length) (hj : j < G.length) : lft (way (pr G) i) (way (pr G) j) = pathU G i j ∧ (rgt (way (pr G) i) (way (pr G) j)).reverse = pathD G i j ∧ pathU G i j <+: way (pr G) i := by
  obtain ⟨s, e1, e2, h1, h2⟩ := strip_apart hp hi hj
  refine ⟨?_, ?_, ?_⟩
  · show lft _ _ = (strip (way (pr G) i) (way (pr G) j)).1
    conv => lhs; unfold lft; rw [show way (pr G) i = _ from e1]
    rw [List.filter_append, List.filter_eq_self.2, List.filter_eq_nil_iff.2, List.append_nil]
    · intro x hx
      have : x ∈ way (pr G) j := by rw [e2]; exact List.mem_append_right _ hx
      simp [this]
    · intro x hx
      have := h1 x hx
      simp [this]
  · show (rgt _ _).reverse = (strip (way (pr G) i) (way (pr G) j)).2.reverse
    congr 1
    conv => lhs; unfold rgt; rw [show way (pr G) j = _ from e2]
    rw [List.filter_append, List.filter_eq_self.2, List.filter_eq_nil_iff.2, List.append_nil]
    · intro x hx
      have : x ∈ way (pr G) i := by rw [e1]; exact List.mem_append_right _ hx
      simp [this]
    · intro x hx
      have := h2 x hx
      simp [this]
  · exact ⟨s, e1.symm⟩
end Go.Proofs.Ytaahklapoppgaaa

/- The program's way. -/
namespace Go.Proofs.Ytaahklapoppgaaa
open Go.RowKit Go.Maps

set_option maxRecDepth 8000
theorem law3 : Keyed Try.prog 3 := int_keyed Try.underlying3
theorem zero3 (w : World) : (zeroValue 3).run Try.prog w = .ok (.int .i64 0) w := by kernel_rfl
theorem key3 {x : Nat} (h : x < 4611686018427387904) : keyOf Try.prog 3 (.int .i64 (x : Int)) = some (kl x) := keyOf_int_mk Try.underlying3 (kl_wf h)
/-- a map's block is no row's -/
theorem far_map {W : World} {base e s n k M : Nat} {v : Value} {xs : List Value} {D : DataW Unit} (h : W.ownsRow base e s v n xs) (hm : W.ownsMap Try.prog 3 (plainElem Try.prog 3) M k D) : some M ≠ v.ownBlock := fun e1 => by
  obtain ⟨es, cl, h1, -⟩ := hm
  rcases h.2 with ⟨rfl, -⟩ | ⟨g, cap, cur, rfl, -, h2, -⟩
  · simp [Value.ownBlock] at e1
  · simp [Value.ownBlock] at e1
    subst e1
    rw [h1] at h2
    cases h2
theorem Up.uniq {par : Nat → Nat} : ∀ {a : List Nat} {i c d : Nat}, Up par i a c → Up par i a d → c = d
  | [], _, _, _, h1, h2 => by have e1 : _ = _ := h1; have e2 : _ = _ := h2; omega
  | _ :: _, _, _, _, h1, h2 => Up.uniq h1.2.2 h2.2.2
theorem Up.next {par : Nat → Nat} {a : List Nat} {i c k x y : Nat} (h : Up par i a c) (hx : a[k]? = some x) (hy : a[k + 1]? = some y) : y = par x := Up.uniq (Up.nth h hy).1 (Up.nth h hx).2.2
/-- the two lists of a path -/
def PathP (U D : List Nat) (w : World) (e : Ending) (w' : World) : Prop := ∃ a ca b cb, e = .returned (.tuple #[.slice a U.length ca, .slice b D.length cb]) ∧ w'.ownsRow w.heap.size 3 1 (.slice a U.length ca) U.length (iv U) ∧ w'.ownsRow w.heap.size 3 1 (.slice b D.length cb) D.length (iv D) ∧ Below w.heap.size w w'
theorem way_len {par : Nat → Nat} {k i : Nat} (hp : Low par k) (hi : i < k) : (way par i).length ≤ i ∧ (way par i).length ≤ k := by
  have u := way_up hp hi
  have : ∀ {a : List Nat} {j c : Nat}, j < k → Up par j a c → a.length ≤ j := by
    intro a
    induction a with
    | nil => intros; simp
    | cons x a ih =>
      intro j c hj h
      have := hp j h.2.1 hj
      have := ih (by omega) h.2.2
      simp; omega
  have := this hi u
  omega
set_option maxHeartbeats 16000000 in
theorem way_walk (par : Nat → Nat) (g o n c f t : Nat) (U D0 A B : List Nat) (w : World) (hp : Hid (Low par n)) (hb : n ≤ 4097) (hf : f < n) (ht : t < n)
    (HA : Hid (way par f = A)) (HB : Hid (way par t = B)) (HU : Hid (lft A B = U)) (HD : Hid (rgt A B = D0)) (HPre : Hid (U <+: A))
    (HC : Hid (∀ i, 0 < i → i < n → w.cell? ⟨g, o + i * 58, none⟩ = some (.int .i64 (par i : Int)))) :
    Calls Try.prog 45 #[.slice (some ⟨g, o, none⟩) n c, .int .i64 (f : Int), .int .i64 (t : Int)] w fun e w' => PathP U D0.reverse w e w' := by
  have hmm := @run_makeMap Try.prog
  obtain ⟨i3, hi3, hz3, hs3, hb3⟩ := info_parts info3
  have HNA : Hid (A.Nodup) := by unfold Hid; rw [← HA.out]; exact Up.nodup hp.out hf (way_up hp.out hf)
  have HNB : Hid (B.Nodup) := by unfold Hid; rw [← HB.out]; exact Up.nodup hp.out ht (way_up hp.out ht)
  have HLA : Hid (A.length ≤ 4097) := by unfold Hid; rw [← HA.out]; have := way_len hp.out hf; omega
  have HLB : Hid (B.length ≤ 4097) := by unfold Hid; rw [← HB.out]; have := way_len hp.out ht; omega
  have M0 := mkH (World.ownsMap_made (H := Unit) w Try.prog 3 (plainElem Try.prog 3))
  have B0 : Hid (Below w.heap.size w (w.alloc (.map #[] 0))) := bAlloc (Below.refl _ _) _
  go_enter Try.func45, Try.ntmps45
  go_wp2_with fail
  generalize w.alloc (.map #[] 0) = W1 at *
  go_loopg [9] f (fun m x9 wx => x9 = .int .i64 (m : Int) ∧ m < n ∧ ∃ (a : List Nat) (D : DataW Unit), Hid (A = a ++ way par m) ∧ Hid (Mp par D a) ∧ Hid (wx.ownsMap Try.prog 3 (plainElem Try.prog 3) w.heap.size a.length D) ∧ Hid (Below w.heap.size w wx))
  case atStart => exact ⟨rfl, hf, [], .map [], by rw [← HA.out]; exact rfl, Mp.nil _, M0.out, B0.out⟩
  case round =>
    obtain ⟨rfl, hgn, a, D, KA, KM, KO, KB⟩ := hrel
    by_cases hz : gk = 0
    · subst hz
      have KA' : Hid (a = A) := by unfold Hid; rw [KA.out, way_zero, List.append_nil]
      clear KA
      go_wp2_with fail
      go_loopg [7, 10, 11, 12] t (fun m x7 x10 x11 x12 wx => x10 = .int .i64 (m : Int) ∧ m < n ∧ ∃ (b : List Nat) (D : DataW Unit), Hid (B = b ++ way par m) ∧ Hid (Mp par D (lft A b)) ∧ Hid (wx.ownsMap Try.prog 3 (plainElem Try.prog 3) w.heap.size A.length D) ∧ Hid (Below w.heap.size w wx) ∧ Hid (wx.ownsRow w.heap.size 3 1 x7 (rgt A b).length (iv (rgt A b))))
      case atStart => exact ⟨rfl, ht, [], D, by rw [← HB.out]; exact rfl, by rw [lft_nil, ← KA'.out]; exact KM.out, by rw [← KA'.out]; exact KO.out, KB.out, ⟨rfl, .inl ⟨rfl, rfl⟩⟩⟩
      case round =>
        obtain ⟨rfl, hgn2, b, D2, JB, JM, JO, JL, JR⟩ := hrel
        clear KM KO KB
        by_cases hz2 : gk = 0
        · subst hz2
          have JB' : Hid (b = B) := by unfold Hid; rw [JB.out, way_zero, List.append_nil]
          have JM' : Hid (Mp par D2 U) := by have := JM.out; rw [JB'.out, HU.out] at this; exact this
          obtain ⟨a7, c7, hs7⟩ := own_shape JR.out
          subst hs7
          have hrl : (rgt A b).length = D0.length := by rw [JB'.out, HD.out]
          rw [hrl] at JR ⊢
          have JR' : Hid (wr.ownsRow w.heap.size 3 1 (.slice a7 D0.length c7) D0.length (iv D0)) := by have := JR.out; rw [JB'.out, HD.out] at this; exact this
          have HLD : Hid (D0.length ≤ 4097) := by unfold Hid; rw [← HD.out]; have := HLB.out; have h2 := List.length_filter_le (fun x => !A.contains x) B; unfold rgt; omega
          have hsz : Maps.size D2 = U.length := JM'.out.sz
          have CR := mkH (reverse_any (.slice a7 D0.length c7) D0.length w.heap.size D0 wr JR'.out HLD.out)
          have HNM := mkH (far_map JR'.out JO.out)
          have H7 := mkH (fun k hk => (JR'.out.lt k hk).1)
          clear JM JR JB hrl
          go_wp2_with (first | (go_at_call 66; refine CR.out.mono ?_; rintro e w3 ⟨⟨u, rfl⟩, ho3, hg3⟩; have O3 := mkH ho3; have JO3 := mkH (JO.out.kept hg3 HNM.out); have L3 := mkH (JL.out.grown hg3 JL.out.size (fun k hk => H7.out k hk)); clear ho3 hg3) | fail)
          have O3' : Hid (w3.ownsRow w.heap.size 3 1 (.slice a7 D0.length c7) D0.reverse.length (iv D0.reverse)) := by unfold Hid; rw [List.length_reverse]; exact O3.out
          have R0 : Hid (Rws w w3 [⟨3, 1, .slice a7 D0.length c7, D0.length, iv D0.reverse⟩, ⟨3, 1, .slice none 0 0, 0, []⟩]) := by
            refine ⟨fun i r hi => ?_, fun i j p q hij hi hj => ?_, L3.out⟩
            · match i, hi with
              | 0, hi => simp at hi; subst hi; exact O3.out
              | 1, hi => simp at hi; subst hi; exact ⟨rfl, .inl ⟨rfl, rfl⟩⟩
              | k + 2, hi => simp at hi
            · match i, j, hi, hj with
              | 0, 0, _, _ => exact absurd rfl hij
              | 1, 1, _, _ => exact absurd rfl hij
              | 0, 1, hi, hj => simp at hi hj; subst hi hj; exact fun g h1 h2 => by simp [Value.ownBlock] at h2
              | 1, 0, hi, hj => simp at hi hj; subst hi hj; exact fun g h1 h2 => by simp [Value.ownBlock] at h1
              | k + 2, _, hi, _ => simp at hi
              | 0, k + 2, _, hj => simp at hj
              | 1, k + 2, _, hj => simp at hj
          have HUp : Hid (∃ cc, Up par f U cc) := by
            obtain ⟨s, hs⟩ := HPre.out
            have u := way_up hp.out hf
            rw [HA.out, ← hs] at u
            obtain ⟨d, h1, -⟩ := Up.append.1 u
            exact ⟨d, h1⟩
          have HUM : Hid (∀ x ∈ U, x < 4097) := fun x hx => by
            have h1 : x ∈ way par f := by rw [HA.out]; exact HPre.out.subset hx
            have := (Up.lt hp.out hf (way_up hp.out hf)).1 x h1
            omega
          obtain ⟨ul, hul⟩ : ∃ ul, ul = U.length := ⟨_, rfl⟩
          have HULb : Hid (ul ≤ 4097) := by unfold Hid; rw [hul]; have := HPre.out.length_le; have := HLA.out; omega
          rw [← hul] at hsz
          have HUL := mkH hul
          clear O3 O3' CR JR' JO JL HNM H7 L3 hul
          go_wp2_with fail
          go_loopg [6, 13] ul (fun m x6 x13 wx => ∃ (j : Nat) (y : Nat), x13 = .int .i64 (y : Int) ∧ j + m = ul ∧ Hid (∀ z, U[j]? = some z → z = y) ∧ Hid (wx.ownsMap Try.prog 3 (plainElem Try.prog 3) w.heap.size A.length D2) ∧ Hid (Rws w wx [⟨3, 1, .slice a7 D0.length c7, D0.length, iv D0.reverse⟩, ⟨3, 1, x6, j, iv (U.take j)⟩]))
          case atStart =>
            refine ⟨0, f, rfl, by omega, fun z hz => ?_, JO3.out, R0.out⟩
            obtain ⟨cc, hcc⟩ := HUp.out
            cases hU : U with
            | nil => rw [hU] at hz; simp at hz
            | cons y U' => rw [hU] at hz hcc; simp at hz; rw [← hz]; exact hcc.1
          case round =>
            obtain ⟨j, y, rfl, hjm, HY, IO, IR⟩ := hrel
            obtain ⟨a6, c6, hs6⟩ := own_shape (IR.out.own 1 _ rfl)
            dsimp only at hs6
            subst hs6
            by_cases hj : j < ul
            · have hj' : (j : Int) < (ul : Int) := by omega
              obtain ⟨z, hz⟩ : ∃ z, U[j]? = some z := ⟨_, List.getElem?_eq_getElem (by rw [← HUL.out]; omega)⟩
              obtain rfl := HY.out z hz
              have HZ := mkH hz
              have hzb : z < 4611686018427387904 := by have := HUM.out z (List.mem_of_getElem? hz); omega
              have hat := JM'.out.at_ z (List.mem_of_getElem? hz)
              have HAT := mkH hat
              have hkey := key3 hzb
              have HT : Hid (U.take (j + 1) = U.take j ++ [z]) := by
                obtain ⟨hi, e⟩ := List.getElem?_eq_some_iff.1 hz
                unfold Hid
                rw [List.take_succ_eq_append_getElem hi, e]
              have hbi := IR.out.bel.size
              have HBI := mkH hbi
              clear hz hat hbi
              go_upto_region 17 with (first | (at_builtin; refine append_srv rfl (.tmp 59) (.tmp 61) 29 rfl w.heap.size 3 i3 (.int .i64 0) 1 8 Try.underlying29 hi3 hz3 hs3 hb3 rfl (by decide) (.slice a6 j c6) j (iv (U.take j)) rfl (own_keep (IR.out.own 1 _ rfl) (bAlloc (Below.refl _ _) _)) (.slice (some ⟨wr.heap.size, 0, none⟩) 1 1) 1 [.int .i64 (z : Int)] rfl (.inr ⟨_, _, rfl, fun j t hj => lit_cells wr #[.int .i64 (z : Int)] 3 j t hj⟩) rfl (iv_one [z]) (by have := HULb.out; unfold maxLen; omega) (by have := HULb.out; omega) (by have := HBI.out; simp; omega) ?_; intro v' w5 ho hg hf5) | (at_len; refine wpList_len_own _ rfl (.tmp 56) 109 rfl 3 3 Try.underlying109 (plainElem Try.prog 3) w.heap.size A.length D2 rfl IO.out ?_) | fail)
              have RA := IR.out.alloc (.cells #[.int .i64 (z : Int)] 3)
              have RB := RA.grow (i := 1) (t := 3) (s := 1) (n := j + 1) (v := v') (xs := iv (U.take (j + 1))) rfl hg (by rw [HT.out, iv_append]; exact ho) hf5
              have OB := (IO.out.alloc (.cells #[.int .i64 (z : Int)] 3)).kept hg (far_map (RA.own 1 _ rfl) (IO.out.alloc _))
              have RB' := mkH RB
              have OB' := mkH OB
              clear ho hg hf5 RA RB OB IR IO
              go_wp2_with (first | (at_lookup; refine wpList_lookup_own_int _ rfl _ _ 109 rfl 3 3 .i64 law3 Try.underlying109 Try.underlying3 (zero3 _) w.heap.size A.length D2 rfl OB'.out _ (kl z) rfl hkey ?_; intro c9 hat9 hwc9) | fail)
              have hc9 : c9 = (par z : Int) := by have := hat9.symm.trans HAT.out; simpa using this
              subst hc9
              clear hat9 hwc9
              go_roundg (gk - 1)
              case measure => omega
              case rel =>
                refine ⟨j + 1, par z, rfl, by omega, fun z' hz' => ?_, OB'.out, RB'.out⟩
                obtain ⟨cc, hcc⟩ := HUp.out
                exact Up.next hcc HZ.out hz'
            · have hj' : ¬ (j : Int) < (ul : Int) := by omega
              obtain rfl : j = ul := by omega
              have HT : Hid (U.take j = U) := by unfold Hid; rw [List.take_of_length_le (by rw [← HUL.out]; omega)]
              go_wp2_with (first | (at_len; refine wpList_len_own _ rfl (.tmp 56) 109 rfl 3 3 Try.underlying109 (plainElem Try.prog 3) w.heap.size A.length D2 rfl IO.out ?_) | fail)
              have o1 := IR.out.own 1 _ rfl
              have o0 := IR.out.own 0 _ rfl
              dsimp only at o1 o0
              rw [HT.out] at o1
              have hU := HUL.out
              have e2 : D0.reverse.length = D0.length := List.length_reverse
              exact bodyPost_ret (v := .tuple #[.slice a6 j c6, .slice a7 D0.length c7]) (by simp [results, Try.results45, go_sem]) rfl ⟨a6, c6, a7, c7, by rw [← hU, e2], by rw [← hU]; exact o1, by rw [e2]; exact o0, IR.out.bel⟩
        · have hz3' : ((gk : Int) == 0) = false := by simp; omega
          have hz4 : ((gk : Int) != 0) = true := by simp [bne, hz3']
          have hi' : (gk : Int) < (n : Int) := by omega
          have hi0 : (0 : Int) ≤ (gk : Int) := by omega
          have hpl := hp.out gk (by omega) hgn2
          have hkey := key3 (x := gk) (by omega)
          have HS : Hid (B = (b ++ [gk]) ++ way par (par gk)) := by unfold Hid; rw [JB.out, way_step hp.out (by omega) hgn2, List.append_assoc]; rfl
          have HNb : Hid (gk ∉ b) := fun hm => by
            have h1 := HNB.out
            rw [HS.out, List.nodup_append, List.nodup_append] at h1
            exact h1.1.2.2 gk hm gk (by simp) rfl
          have hhas0 := JM.out.hs gk (by omega)
          have T0 : Hid (w.cell? ⟨g, o + gk * 58, none⟩ = some (.int .i64 (par gk : Int))) := HC.out gk (by omega) hgn2
          obtain ⟨a7, c7, hs7⟩ := own_shape JR.out
          subst hs7
          by_cases hin : gk ∈ A
          · have hm : gk ∈ lft A b := mem_lft.2 ⟨hin, HNb.out⟩
            rw [decide_eq_true hm] at hhas0
            have hhas := hhas0
            have HM2 : Hid (Mp par (D2.del (kl gk)) (lft A (b ++ [gk]))) := by unfold Hid; rw [lft_snoc HNA.out]; exact JM.out.del hm
            have HR2 : Hid (rgt A (b ++ [gk]) = rgt A b) := rgt_snoc_in hin
            generalize rgt A b = rb at *
            clear hhas0 hin hm hz2 JM
            go_wp2_with (first | (at_lookup; refine wpList_lookup_own_ok_int _ rfl _ _ 109 rfl 3 3 .i64 law3 Try.underlying109 Try.underlying3 (zero3 _) w.heap.size A.length D2 rfl JO.out _ (kl gk) rfl hkey ?_; intro c9 hat9 hwc9; clear hat9 hwc9) | (at_delete; refine wpList_delete_own _ rfl _ _ 109 3 rfl 3 law3 Try.underlying109 (plainElem Try.prog 3) w.heap.size A.length D2 rfl JO.out _ (kl gk) rfl hkey ?_; intro w5 ho5 ht5; have O5 := mkH ho5; have L5 := mkH (JL.out.grown ht5.grown JL.out.size (fun k hk => by cases hk; exact Nat.le_refl _)); have R5 := mkH (JR.out.kept ht5.grown (far_map JR.out JO.out |> fun h => .inr fun e => h e.symm)); have t5 := cell_keep T0.out L5.out; clear ho5 ht5) | fail)
            go_roundg (par gk)
            case measure => omega
            case rel => exact ⟨rfl, by omega, b ++ [gk], D2.del (kl gk), HS.out, HM2.out, O5.out, L5.out, by rw [HR2.out]; exact R5.out⟩
          · have hm : gk ∉ lft A b := fun h => hin (mem_lft.1 h).1
            rw [decide_eq_false hm] at hhas0
            have hhas := hhas0
            have HM2 : Hid (Mp par D2 (lft A (b ++ [gk]))) := by unfold Hid; rw [lft_snoc_not hm]; exact JM.out
            have HR2 : Hid (rgt A (b ++ [gk]) = rgt A b ++ [gk]) := rgt_snoc_out hin
            have HLR : Hid ((rgt A b).length ≤ 4097) := by
              have h1 := HLB.out
              have h2 := List.length_filter_le (fun x => !A.contains x) b
              have h3 := congrArg List.length JB.out
              rw [List.length_append] at h3
              unfold Hid rgt
              omega
            generalize rgt A b = rb at *
            have hbi := JL.out.size
            have HBI := mkH hbi
            have JRa : Hid ((wr.alloc (.cells #[.int .i64 (gk : Int)] 3)).ownsRow w.heap.size 3 1 (.slice a7 rb.length c7) rb.length (iv rb)) := own_keep JR.out (bAlloc (Below.refl _ _) _)
            have JOa : Hid ((wr.alloc (.cells #[.int .i64 (gk : Int)] 3)).ownsMap Try.prog 3 (plainElem Try.prog 3) w.heap.size A.length D2) := JO.out.alloc _
            have JLa : Hid (Below w.heap.size w (wr.alloc (.cells #[.int .i64 (gk : Int)] 3))) := bAlloc JL.out _
            have NMa := mkH (far_map JRa.out JOa.out)
            have H7 : Hid (∀ k, (Value.slice a7 rb.length c7).ownBlock = some k → w.heap.size ≤ k) := fun k hk => (JR.out.lt k hk).1
            have SRa : Hid (Srv (wr.alloc (.cells #[.int .i64 (gk : Int)] 3)) (.slice (some ⟨wr.heap.size, 0, none⟩) 1 1) 1 [.int .i64 (gk : Int)]) := .inr ⟨_, _, rfl, fun j t hj => lit_cells wr #[.int .i64 (gk : Int)] 3 j t hj⟩
            have Q1 : Hid (rb.length + 1 ≤ maxLen) := by have := HLR.out; unfold Hid maxLen; omega
            have Q2 : Hid ((rb.length + 1) * 8 ≤ 140737488355328) := by have := HLR.out; unfold Hid; omega
            have Q3 : Hid (w.heap.size ≤ (wr.alloc (.cells #[.int .i64 (gk : Int)] 3)).heap.size) := JLa.out.size
            clear hhas0 hin hm hz2 JM hbi
            go_wp2_with (first | (at_lookup; refine wpList_lookup_own_ok_int _ rfl _ _ 109 rfl 3 3 .i64 law3 Try.underlying109 Try.underlying3 (zero3 _) w.heap.size A.length D2 rfl JO.out _ (kl gk) rfl hkey ?_; intro c9 hat9 hwc9; clear hat9 hwc9) | (at_builtin; refine append_srv rfl (.tmp 47) (.tmp 49) 29 rfl w.heap.size 3 i3 (.int .i64 0) 1 8 Try.underlying29 hi3 hz3 hs3 hb3 rfl (by decide) (.slice a7 rb.length c7) rb.length (iv rb) rfl JRa.out (.slice (some ⟨wr.heap.size, 0, none⟩) 1 1) 1 [.int .i64 (gk : Int)] rfl SRa.out rfl (iv_one [gk]) Q1.out Q2.out Q3.out ?_; intro v' w5 ho hg hf5; have O5 := mkH (JOa.out.kept hg NMa.out); have L5 := mkH (JLa.out.grown hg JLa.out.size H7.out); have R5 := mkH ho; have t5 := cell_keep T0.out L5.out; clear ho hg hf5) | fail)
            go_roundg (par gk)
            case measure => omega
            case rel => exact ⟨rfl, by omega, b ++ [gk], D2, HS.out, HM2.out, O5.out, L5.out, by rw [HR2.out, iv_append, List.length_append]; exact R5.out⟩
    · have hz1 : ((gk : Int) == 0) = false := by simp; omega
      have hz2 : ((gk : Int) != 0) = true := by simp [bne, hz1]
      have hi' : (gk : Int) < (n : Int) := by omega
      have hi0 : (0 : Int) ≤ (gk : Int) := by omega
      have hpl := hp.out gk (by omega) hgn
      have hkey := key3 (x := gk) (by omega)
      have HS : Hid (A = (a ++ [gk]) ++ way par (par gk)) := by unfold Hid; rw [KA.out, way_step hp.out (by omega) hgn, List.append_assoc]; rfl
      have HNa : Hid (gk ∉ a) := fun hm => by
        have h1 := HNA.out
        rw [HS.out, List.nodup_append, List.nodup_append] at h1
        exact h1.1.2.2 gk hm gk (by simp) rfl
      have HM2 := mkH (KM.out.put HNa.out (by omega))
      have HLa : Hid (a.length ≤ 4097) := by
        have h1 := HLA.out
        have h3 := congrArg List.length KA.out
        rw [List.length_append] at h3
        unfold Hid; omega
      have T0 : Hid (w.cell? ⟨g, o + gk * 58, none⟩ = some (.int .i64 (par gk : Int))) := HC.out gk (by omega) hgn
      have t0 := cell_keep T0.out KB.out
      have HWF : Hid ((Lit.int .i64 (par gk : Int)).wf = true) := kl_wf (by omega)
      clear hz KM
      go_wp2_with (first | (at_mapUpdate; refine wpList_mapUpdate_own _ rfl _ _ _ 109 rfl 3 3 law3 Try.underlying109 _ w.heap.size a.length D rfl KO.out (by have := HLa.out; unfold maxLen; omega) _ _ (kl gk) rfl rfl hkey _ [] (plainElem_int Try.underlying3 HWF.out) ?_; intro w5 ho5 hg5; have O5 := mkH ho5; have L5 := mkH (KB.out.grown hg5 KB.out.size (fun k hk => by cases hk; exact Nat.le_refl _)); have t5 := cell_keep T0.out L5.out; clear ho5 hg5) | fail)
      go_roundg (par gk)
      case measure => omega
      case rel => exact ⟨rfl, by omega, a ++ [gk], _, HS.out, HM2.out, by rw [List.length_append]; exact O5.out, L5.out⟩
theorem way_any (ao : Option Addr) (n c f t : Nat) (G : List Nr) (w : World) (HG : Hid (Grz w ao G)) (hn : G.length = n) (hb : n ≤ 4097) (hf : f < n) (ht : t < n) (HH : Hid (Hangs (G.map Nr.d))) :
    Calls Try.prog 45 #[.slice ao n c, .int .i64 (f : Int), .int .i64 (t : Int)] w fun e w' => PathP (pathU (G.map Nr.d) f t) (pathD (G.map Nr.d) f t) w e w' := by
  obtain ⟨g, o, rfl, hat0⟩ := HG.out.base (by omega)
  have hlen : (G.map Nr.d).length = n := by rw [List.length_map, hn]
  have hp := HH.out.low
  obtain ⟨h1, h2, h3⟩ := path_lft (G := G.map Nr.d) (i := f) (j := t) hp (by omega) (by omega)
  rw [← h2]
  rw [hlen] at hp
  refine way_walk (pr (G.map Nr.d)) g o n c f t _ _ _ _ w hp hb hf ht rfl rfl h1 rfl h3 fun i h0 hi => ?_
  obtain ⟨r, hr⟩ : ∃ r, G[i]? = some r := ⟨_, List.getElem?_eq_getElem (by omega)⟩
  obtain ⟨k, e1, e2, -⟩ := par_at rfl HH.out hr h0
  have := (hat0 i r hr).c0
  rw [e1, e2] at this
  exact this
end Go.Proofs.Ytaahklapoppgaaa

/- Crossings one behind the other. -/
namespace Go.Proofs.Ytaahklapoppgaaa
open Go.RowKit

theorem foldU_sk : ∀ (U : List Nat) (s : Wk) (j : Nat), sk (at' (U.foldl Wk.up s).G j) = sk (at' s.G j)
  | [], _, _ => rfl
  | x :: U, s, j => (foldU_sk U (s.up x) j).trans (s.up_sk x j)
theorem foldD_sk : ∀ (U : List Nat) (s : Wk) (j : Nat), sk (at' (U.foldl Wk.down s).G j) = sk (at' s.G j)
  | [], _, _ => rfl
  | x :: U, s, j => (foldD_sk U (s.down x) j).trans (s.down_sk x j)
theorem foldU_len : ∀ (U : List Nat) (s : Wk), (U.foldl Wk.up s).G.length = s.G.length
  | [], _ => rfl
  | x :: U, s => (foldU_len U (s.up x)).trans (s.up_len x)
theorem foldD_len : ∀ (U : List Nat) (s : Wk), (U.foldl Wk.down s).G.length = s.G.length
  | [], _ => rfl
  | x :: U, s => (foldD_len U (s.down x)).trans (s.down_len x)
theorem Up.congr {p p' : Nat → Nat} (h : ∀ i, p i = p' i) : ∀ {a : List Nat} {i c : Nat}, Up p i a c → Up p' i a c
  | [], _, _, h1 => h1
  | _ :: _, i, _, h1 => ⟨h1.1, h1.2.1, by have := Up.congr h h1.2.2; rwa [h i] at this⟩
theorem foldU_now : ∀ {U : List Nat} {s : Wk} {i c : Nat}, s.now = (i : Int) → i < s.G.length → (∀ j, 0 < j → j < s.G.length → 0 ≤ (at' s.G j).par ∧ (at' s.G j).par < (j : Int)) → Up (pr s.G) i U c → (U.foldl Wk.up s).now = (c : Int)
  | [], s, i, c, h1, _, _, h3 => by have e : i = c := h3; subst e; exact h1
  | x :: U, s, i, c, h1, hi, h2, h3 => by
    have e := h3.1
    subst e
    have hp := h2 x h3.2.1 hi
    have hn : (s.up x).now = ((pr s.G x : Nat) : Int) := by
      show (at' s.G x).par = _
      unfold pr
      omega
    have hpr : ∀ j, pr s.G j = pr (s.up x).G j := fun j => (pr_sk (s.up_sk x j)).symm
    refine foldU_now (s := s.up x) hn (by rw [s.up_len]; unfold pr; omega) (fun j h0 hj => ?_) (Up.congr hpr h3.2.2)
    rw [par_sk (s.up_sk x j)]
    exact h2 j h0 (by rw [s.up_len] at hj; exact hj)
/-- what a path holds -/
theorem path_in {G : List Nd} {i j : Nat} (hp : Low (pr G) G.length) (hi : i < G.length) (hj : j < G.length) : (∀ x ∈ pathU G i j, 0 < x ∧ x < G.length) ∧ (∀ x ∈ pathD G i j, 0 < x ∧ x < G.length) ∧ (pathU G i j).length ≤ G.length ∧ (pathD G i j).length ≤ G.length ∧ ∃ c, Up (pr G) i (pathU G i j) c := by
  obtain ⟨s, e1, e2, -, -⟩ := strip_apart hp hi hj
  have u1 := way_up hp hi
  have u2 := way_up hp hj
  have hU : pathU G i j ++ s = way (pr G) i := e1.symm
  have hD : (pathD G i j).reverse ++ s = way (pr G) j := by unfold pathD; rw [List.reverse_reverse]; exact e2.symm
  refine ⟨fun x hx => ?_, fun x hx => ?_, ?_, ?_, ?_⟩
  · have hm : x ∈ way (pr G) i := by rw [← hU]; exact List.mem_append_left _ hx
    exact ⟨Up.mem u1 x hm, by have := (Up.lt hp hi u1).1 x hm; omega⟩
  · have hm : x ∈ way (pr G) j := by rw [← hD]; exact List.mem_append_left _ (List.mem_reverse.2 hx)
    exact ⟨Up.mem u2 x hm, by have := (Up.lt hp hj u2).1 x hm; omega⟩
  · have := congrArg List.length hU; rw [List.length_append] at this; have := way_len hp hi; omega
  · have := congrArg List.length hD; rw [List.length_append, List.length_reverse] at this; have := way_len hp hj; omega
  · rw [← hU] at u1
    obtain ⟨d, h1, -⟩ := Up.append.1 u1
    exact ⟨d, h1⟩
/-- how a walk in memory is one -/
structure StI (s : Wk) (H : List Nr) (F : List Er) (nw cu : Int) (mm : List Int) : Prop where
  g : H.map Nr.d = s.G
  e : F.map Er.d = s.E
  n : s.now = nw
  c : s.cur = cu
  m : s.m = mm
theorem StI.at {s : Wk} {H : List Nr} {F : List Er} {nw cu : Int} {mm : List Int} {k : Nat} {r : Nr} (h : StI s H F nw cu mm) (hr : H[k]? = some r) : at' s.G k = r.d := by rw [← h.g]; exact map_at hr
theorem StI.up {s : Wk} {H : List Nr} {F F2 : List Er} {nw cu : Int} {mm : List Int} {k : Nat} {r : Nr} (h : StI s H F nw cu mm) (hr : H[k]? = some r) (hF : F2.map Er.d = inv (r.E.map Er.d)) : StI (s.up k) (H.set k (r.mk2 mm (crs mm r.was r.made (inv (r.E.map Er.d))))) (F ++ F2) r.par r.cur (crs mm r.was r.made (inv (r.E.map Er.d))) := by
  obtain ⟨h1, h2, h3, h4, h5⟩ := up_st h.g hr
  rw [h.m] at h1 h5
  exact ⟨h1.symm, by rw [List.map_append, h.e, hF, h3], h2, h4, h5⟩
theorem StI.down {s : Wk} {H : List Nr} {F F2 : List Er} {nw cu : Int} {mm : List Int} {k k0 : Nat} {r t : Nr} (h : StI s H F nw cu mm) (hr : H[k]? = some r) (ht : H[k0]? = some t) (hk : k0 ≠ k) (hp : r.par = (k0 : Int)) (hF : F2.map Er.d = r.E.map Er.d) : StI (s.down k) ((H.set k (r.mk2 mm (crs mm r.was r.made (r.E.map Er.d)))).set k0 (t.to (k : Int))) (F ++ F2) (k : Int) (fst (r.E.map Er.d)) (crs mm r.was r.made (r.E.map Er.d)) := by
  obtain ⟨h1, h2, h3, h4, h5⟩ := dn_st h.g hr ht hk hp
  rw [h.m] at h1 h5
  exact ⟨h1.symm, by rw [List.map_append, h.e, hF, h3], h2, h4, h5⟩
theorem own_frm {p B q1 q2 base n : Nat} {v0 v : Value} {W W' : World} {xs : List Value} (h : W.ownsRow base 3 1 v n xs) (hf : Frm p B v0 W W') (h1 : ∀ g, v.ownBlock = some g → q1 ≤ g ∧ g < q2) (h2 : ∀ g, v0.ownBlock = some g → q2 ≤ g) (h3 : p < q1) (h4 : B < q1) : W'.ownsRow base 3 1 v n xs :=
  own_same h (fun k hk hlt => hf k hlt (by have := h1 k hk; omega) (by have := h1 k hk; omega) (fun e => by have := h2 k e; have := h1 k hk; omega))
noncomputable def goE (D : List Nd) (now tt : Int) (m : List Int) : Int := ti (Right D now) (ti (MOk m) (ti (tt < 0) 181 (ti ((D.length : Int) ≤ tt) 182 0)) 2) 180
end Go.Proofs.Ytaahklapoppgaaa

