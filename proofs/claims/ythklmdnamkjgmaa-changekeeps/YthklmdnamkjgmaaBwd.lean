/- slices.Backward of edits, as an iterator. -/
import Derived.Test.YthklmdnamkjgmaaRng
import Derived.Test.YthklmdnamkjgmaaTrm
import Derived.Shelf.Abstract
import Derived.Shelf.RegionOpen
import Derived.OwnWalkIn
import Derived.TacticsInMore
import Derived.LoopNIn
import Derived.LoopIn
namespace Go.Proofs.Ythklmdnamkjgmaa
open Go.RowKit Go.Shelf
attribute [local go_sem] Oper.semAt_some

set_option maxRecDepth 8000
set_option maxHeartbeats 1000000 in
theorem backward_any (ao : Option Addr) (n c : Nat) (w : World) :
    Calls Try.prog 33 #[.slice ao n c] w fun e w' => e = .returned (.func (.func 43) #[] #[.pointer (some ⟨w.heap.size, 0, none⟩)]) ∧ w' = w.alloc (.cells #[.slice ao n c] 23) := by
  go_enter Try.func33, Try.ntmps33
  go_wp2
  go_ret
  exact ⟨rfl, rfl⟩
theorem blk_cell1 {W : World} {B t : Nat} {v : Value} (h : Blk W B t #[v]) : W.cell? ⟨B, 0, none⟩ = some v := h.cell rfl
/-- what the iterator reads -/
structure Bk (N : Nat → Prop) (W : World) (Bs : Nat) (eo : Option Addr) (en ec : Nat) (E : List Er) : Prop where
  box : Blk W Bs 23 #[.slice eo en ec]
  row : Edr W eo E
  ns : N Bs
  ne : 0 < E.length → ∀ g o, eo = some ⟨g, o, none⟩ → N g
theorem Bk.rnd {N : Nat → Prop} {W W' : World} {lo hi Bs en ec : Nat} {eo : Option Addr} {E : List Er} (h : Bk N W Bs eo en ec E) (hr : Rnd N lo hi W W') : Bk N W' Bs eo en ec E := by
  refine ⟨?_, fun k r hk => ?_, h.ns, h.ne⟩
  · unfold Blk; rw [hr.block Bs h.box.lt (.inl h.ns)]; exact h.box
  · obtain ⟨g, o, h0, h1, h2, h3⟩ := h.row k r hk
    have hb := hr.block g (lt_of_cell h1) (.inl (h.ne (by have := (List.getElem?_eq_some_iff.1 hk).1; omega) g o h0))
    exact ⟨g, o, h0, by rw [World.cell?_of_block hb]; exact h1, by rw [World.cell?_of_block hb]; exact h2, by rw [World.cell?_of_block hb]; exact h3⟩
theorem rev_take {E : List Er} {k : Nat} {r : Er} (hk : k < E.length) (hr : E[E.length - 1 - k]? = some r) : E.reverse.take (k + 1) = E.reverse.take k ++ [r] := by
  have h : E.reverse[k]? = some r := by rw [List.getElem?_reverse hk]; exact hr
  obtain ⟨hi, e⟩ := List.getElem?_eq_some_iff.1 h
  rw [List.take_succ_eq_append_getElem hi, e]
set_option maxHeartbeats 4000000 in
theorem backward_seq (N : Nat → Prop) (w : World) (Bs : Nat) (eo : Option Addr) (en ec : Nat) (E : List Er) (hK : Bk N w Bs eo en ec E) (hn : E.length = en) (hen : en ≤ 140737488355328) :
    SeqC Fence.wide Try.prog 43 #[.pointer (some ⟨Bs, 0, none⟩)] (fun i (x : Er) => #[.int .i64 ((en - 1 - i : Nat) : Int), .agg x.cs]) 0 N E.reverse w := fun n l J Jx W hW _ _ hY h0 => by
  have hK0 : Bk N W Bs eo en ec E := ⟨hK.box.keep hW, hK.row.keep hW, hK.ns, hK.ne⟩
  have HK := Hid.mk' hK0
  have HN := Hid.mk' hn
  have HY := Hid.mk' hY
  have H0 := Hid.mk' h0
  clear hY h0 hK hW
  have hc0 := blk_cell1 hK0.box
  clear hK0
  refine callsIn_of_wp Try.func43 rfl trivial ?_ rfl
  simp only [Try.ntmps43, List.size_toArray, List.length_cons, List.length_nil, Nat.reduceAdd, Nat.reduceSub, Array.replicate_succ, Array.replicate_zero, List.push_toArray, List.append_toArray, List.nil_append, List.cons_append]
  have hw0 : IntKind.i64.wrap ((en : Int) - 1) = (en : Int) - 1 := by rw [IntKind.wrap_i64]; omega
  gi_wp2
  gi_loopw [3] (fun i wr => ∃ k : Nat, k ≤ en ∧ i = .int .i64 ((en : Int) - 1 - (k : Int)) ∧ Hid (J (E.reverse.take k) wr) ∧ Hid (Bk N wr Bs eo en ec E) ∧ Hid (W.heap.size ≤ wr.heap.size))
    (fun i _ => ((intOf i) + 1).toNat)
  case atStart => exact ⟨0, Nat.zero_le _, by simp, by unfold Hid; rw [List.take_zero]; exact H0.out, HK.out, Nat.le_refl _⟩
  case round =>
    obtain ⟨k, hk, rfl, HJ, KK, KS⟩ := hrel
    by_cases hlt : k < en
    · obtain ⟨j, hj⟩ : ∃ j, j = en - 1 - k := ⟨_, rfl⟩
      have e1 : (en : Int) - 1 - (k : Int) = (j : Int) := by omega
      obtain ⟨r, hr⟩ : ∃ r, E[j]? = some r := ⟨_, List.getElem?_eq_getElem (by have := HN.out; omega)⟩
      have hrt := rev_take (E := E) (k := k) (r := r) (by have := HN.out; omega) (by rw [HN.out, ← hj]; exact hr)
      have hpl : (E.reverse.take k).length = k := by rw [List.length_take, List.length_reverse]; have := HN.out; omega
      obtain ⟨g, o, rfl, h3⟩ := KK.out.row.ed3 hr
      obtain ⟨fn, tmps, assign, body, hy, hR⟩ := HY.out (n - 1) (E.reverse.take k) r wr HJ.out (by have := KS.out; omega) (by rw [← hrt]; exact List.take_prefix _ _)
      rw [hpl, ← hj] at hy
      obtain ⟨ra, rp1, ro, rc1, rO, rp2, rn, rc2, rN⟩ := r
      dsimp only [Er.cs] at hy h3
      have t0 := h3.e0
      have t1 := h3.e1
      have t2 := h3.e2
      have tb := blk_cell1 KK.out.box
      have hj0 : (0 : Int) ≤ (j : Int) := by omega
      have hj1 : (j : Int) < (en : Int) := by omega
      have hw1 : IntKind.i64.wrap ((j : Int) - 1) = (j : Int) - 1 := by rw [IntKind.wrap_i64]; omega
      have HRT := Hid.mk' hrt
      have HJJ := Hid.mk' hj
      rw [e1]
      clear h3 hrt hpl hr e1 hj
      gi_wp2
      refine ⟨fun h => (by cases h), ?_⟩
      refine hR.mono ?_
      rintro e W3 (⟨rfl, hJ3, hk3⟩ | ⟨rfl, hJx3, hk3⟩)
      · have J3 : Hid (J (E.reverse.take (k + 1)) W3) := by unfold Hid; rw [HRT.out]; exact hJ3
        have K3 : Hid (Bk N W3 Bs (some ⟨g, o, none⟩) en ec E) := KK.out.rnd hk3
        have S3 : Hid (W.heap.size ≤ W3.heap.size) := Nat.le_trans KS.out hk3.size
        clear hJ3 hk3
        gi_wp2
        go_roundw
        case rel => exact ⟨k + 1, by omega, by have := HJJ.out; simp; omega, J3.out, K3.out, S3.out⟩
        case measure => simp [intOf]
      · have J3 : Hid (Jx (E.reverse.take (k + 1)) W3) := by unfold Hid; rw [HRT.out]; exact hJx3
        clear hJx3 hk3
        gi_wp2
        refine bodyPost_ret (results_none rfl _ _ _) rfl ?_
        exact ⟨⟨_, rfl⟩, .inr ⟨_, List.take_prefix _ _, J3.out⟩⟩
    · have e1 : (en : Int) - 1 - (k : Int) = -1 := by omega
      have JF : Hid (J E.reverse wr) := by
        have := HJ.out
        rw [List.take_of_length_le (by rw [List.length_reverse]; have := HN.out; omega)] at this
        exact this
      rw [e1]
      clear e1
      gi_wp2
      go_end0
      exact ⟨⟨_, rfl⟩, .inl JF.out⟩
end Go.Proofs.Ythklmdnamkjgmaa
