/- Lent, Big, Blk, Cln, Sl -/
import Derived.Test.YtppefcnopkmhbaaGreatDoorPt00
import Derived.Lib.BufferRead
import Derived.Deep.MidRow
import Derived.Deep.LoopGhost
import Derived.Deep.RegionHeld3
import Derived.Deep.CutRange
import Derived.Deep.RegionLaw
import Derived.Deep.QuietTactic
import Derived.OrdersHeld
namespace Go.Proofs.YtppefcnopkmhbaaGreatDoor
open Go.RowKit

/-- bytes as cells -/
def bv (l : List UInt8) : List Value := l.map fun b => Value.int .u8 (b.toNat : Int)
theorem bv_length (l : List UInt8) : (bv l).length = l.length := by simp [bv]
theorem bv_at (l : List UInt8) (j : Nat) (h : j < l.length) : (bv l)[j]? = some (.int .u8 ((at8 l j).toNat : Int)) := by simp [bv, at8, h]
theorem bv_one (l : List UInt8) : ∀ u ∈ bv l, u.oneCell' = true := by
  intro u hu; obtain ⟨x, _, rfl⟩ := List.mem_map.1 hu; rfl
theorem info5 : (Tryz.prog.info? 5).map (fun i => (i.zero, i.size, i.bytes)) = some (some (.int .u8 0), 1, 1) := by kernel_rfl
theorem Tx.srv {w : World} {ao : Option Addr} {n c : Nat} {l : List UInt8} (h : Tx w ao n c l) : Srv w (.slice ao n c) n (bv l) := by
  cases ao with
  | none =>
    obtain ⟨rfl, rfl, rfl⟩ := h.none
    exact .inl ⟨rfl, rfl, rfl⟩
  | some a =>
    refine .inr ⟨a, c, rfl, fun j t hj => ?_⟩
    have hlt := (List.getElem?_eq_some_iff.1 hj).1
    rw [bv_length] at hlt
    rw [bv_at l j hlt] at hj
    rw [← hj]
    exact h.cells a rfl j (by rw [← h.len]; exact hlt)
theorem own_some {w : World} {base e size n : Nat} {v : Value} {xs : List Value} (h : w.ownsRow base e size v n xs) (hn : 1 ≤ n) : ∃ g cap, v = .slice (some ⟨g, 0, none⟩) n cap ∧ n ≤ cap ∧ cap ≤ maxLen := by
  rcases h.2 with ⟨_, h0⟩ | ⟨g, cap, cur, rfl, _, _, h1, h2, _⟩
  · omega
  · exact ⟨g, cap, rfl, h1, h2⟩
theorem conv_tx {W : World} {ao : Option Addr} {n c : Nat} {l : List UInt8} (h : Tx W ao n c l) : (convert 22 9 (.slice ao n c)).run Tryz.prog W = .ok (.string ⟨l.toArray⟩) W := by
  cases ao with
  | none =>
    obtain ⟨rfl, rfl, rfl⟩ := h.none
    exact Lib.run_convert_nil_bytes W 22 9 5 0 Tryz.underlying22 Tryz.underlying5 Tryz.underlying9
  | some a =>
    have := run_convert_bytes_back W 22 9 5 a c l Tryz.underlying22 Tryz.underlying5 Tryz.underlying9 (fun j hj => by rw [h.cells a rfl j (by rw [← h.len]; exact hj), at8_eq hj])
    rwa [h.len] at this
def mk2 : List Value := [.int .u8 77, .int .u8 78]
/-- what was lent reads as the text -/
theorem lent_tx {w : World} {g cap base n : Nat} {l : List UInt8} (hl : l.length = n) (hb : n ≤ 150000000000000) (h : w.ownsRow base 5 1 (.slice (some ⟨g, 0, none⟩) (n + 2) cap) (n + 2) (bv l ++ mk2)) : Tx w (some ⟨g, 0, none⟩) n cap l := by
  obtain ⟨g', cap', hv, hc1, hc2⟩ := own_some h (by omega)
  have hcap : n + 2 ≤ cap := by simp at hv; omega
  refine ⟨hl, by omega, hb, (fun h => by cases h), fun a ha j hj => ?_⟩
  obtain rfl : (⟨g, 0, none⟩ : Addr) = a := by simpa using ha
  rw [add_none, Nat.zero_add, h.cellAt j (by omega), List.getElem?_append_left (by rw [bv_length]; omega)]
  exact bv_at l j (by omega)

end Go.Proofs.YtppefcnopkmhbaaGreatDoor

namespace Go.Proofs.YtppefcnopkmhbaaGreatDoor
open Go.RowKit

theorem next_quarter {need old : Nat} (h : old < need) : Builtin.nextslicecap need old ≤ need + need / 4 + 256 := by
  unfold Builtin.nextslicecap
  split
  · omega
  · split
    · omega
    · rw [growBy_four]
      repeat' split
      all_goals omega

/-- append of whatever bytes there are, to a list that is owned -/
theorem append_big {w : World} {ops : Array Oper} {rest : List Oper} {o : Oper} {a : Act} {Q : Exit → Act → World → Prop} (hgd : o.guard = none) (s x : Operand)
    (ho : o.op = .call { callee := .builtin .append, args := #[s, x], argTypes := #[22, 22] }) (base : Nat)
    (v : Value) (n : Nat) (xs : List Value) (hs : a.eval s = v) (hown : w.ownsRow base 5 1 v n xs)
    (u : Value) (m : Nat) (news : List Value) (hx : a.eval x = u) (hsrc : Srv w u m news) (hl : news.length = m)
    (h1 : ∀ u ∈ news, u.oneCell' = true) (hb : n + m ≤ 150000000000000) (hm : m ≤ 140737488355328) (hbase : base ≤ w.heap.size)
    (h : ∀ v' w', w'.ownsRow base 5 1 v' (n + m) (xs ++ news) → w.grownBy w' v.ownBlock → (v'.ownBlock = v.ownBlock ∨ ∃ q, v'.ownBlock = some q ∧ w.heap.size ≤ q) → wpList Tryz.prog ops Q rest (a.put o.dst v') w') :
    wpList Tryz.prog ops Q (o :: rest) a w := by
  obtain ⟨i5, hi5, hz5, hs5, hb5⟩ := info_parts info5
  by_cases hsm : n + m ≤ 140737488355328
  · exact append_srv hgd s x 22 ho base 5 i5 (.int .u8 0) 1 1 Tryz.underlying22 hi5 hz5 hs5 hb5 rfl (by decide) v n xs hs hown u m news hx hsrc (by omega) h1 (by unfold maxLen; omega) (by omega) hbase h
  · have hx0 := hown.1
    rcases hsrc with ⟨hu, h0, h2⟩ | ⟨ad, c, hu, hcell⟩
    · subst hu h0 h2
      refine wpList_plain hgd fun K hK => ?_
      have hrun := run_append_owned_none (P := Tryz.prog) (w := w) base 22 o.type 5 i5 1 Tryz.underlying22 hi5 v n xs hown
      unfold Oper.wp
      simp [execOp, ho, resolve, invoke, builtin, hs, hx, hrun, Result.andThen]
      exact hK _ _ (h v w (by simpa using hown) ⟨rfl, rfl, rfl, Nat.le_refl _, fun _ _ _ => rfl⟩ (.inl rfl))
    · subst hu
      rcases hown.2 with ⟨hv, hn0⟩ | ⟨g, cap, cur, hv, hbg, hg, hnc, hcm, hcs, htake⟩
      · omega
      · subst hv
        by_cases hroom : n + m ≤ cap
        · refine wpList_append_fits w hgd s x 22 ho base 5 i5 1 Tryz.underlying22 hi5 hs5 g n cap xs hs hown ad m c news hx (by omega) hcell h1 hroom ?_
          intro w' h2 h3
          exact h _ w' h2 h3 (.inl rfl)
        · refine wpList_plain hgd fun K hK => ?_
          have hcells : ∀ j t, xs[j]? = some t → w.cell? ((⟨g, 0, none⟩ : Addr).add j) = some t := hown.cells rfl
          have hq := next_quarter (show cap < n + m by omega)
          have hr := run_append_grow (P := Tryz.prog) w 22 o.type 5 i5 (.int .u8 0) Tryz.underlying22 hi5 hz5 ⟨g, 0, none⟩ n cap xs (by rw [hs5]; omega) hcells ad m c news (by rw [hs5]; omega) hcell (by omega) (by omega) (by rw [hb5]; omega)
          have hge := grownCap_ge w (n + m) cap 5
          have hcm2 := grownCap_le_maxLen w (n + m) cap 5 (by unfold maxLen; omega)
          unfold Oper.wp execOp
          simp only [ho, resolve, invoke, builtin, Sem.run_bind, Sem.run_pure, Result.andThen_ok, List.map_toArray, List.map_cons, List.map_nil, hs, hx, hr]
          refine hK _ _ (h _ _ ⟨by simp; omega, .inr ⟨w.heap.size, _, _, rfl, hbase, heap_alloc_new w.drew _, hge, hcm2, ?_, ?_⟩⟩ ⟨rfl, rfl, rfl, by simp, fun k hk _ => heap_alloc_old w.drew _ hk⟩ (.inr ⟨w.heap.size, rfl, Nat.le_refl _⟩))
          · simp only [Array.size_append, List.size_toArray, size_zeroCells, Value.cells, hl]
            simp; omega
          · simp only [Array.toList_append, List.append_assoc]
            rw [← List.append_assoc]
            exact List.take_left' (by simp; omega)
end Go.Proofs.YtppefcnopkmhbaaGreatDoor

namespace Go.Proofs.YtppefcnopkmhbaaGreatDoor
open Go.RowKit

def Blk (W : World) (B : Nat) (e : Nat) (cs : Array Value) : Prop := W.heap[B]? = some (.cells cs e (0, 0))
theorem Blk.cell {W : World} {B e j : Nat} {cs : Array Value} {v : Value} (h : Blk W B e cs) (hj : cs[j]? = some v) : W.cell? ⟨B, j, none⟩ = some v := by
  rw [cell_of_row W B j cs e (0, 0) h]; exact hj
theorem Blk.frozen {W : World} {B e : Nat} {cs : Array Value} (h : Blk W B e cs) (j : Nat) : W.frozen? ⟨B, j, none⟩ = false := frozen_of_row W B j cs e h
theorem Blk.lt {W : World} {B e : Nat} {cs : Array Value} (h : Blk W B e cs) : B < W.heap.size := (Array.getElem?_eq_some_iff.1 h).1
theorem Blk.keep {W W' : World} {B e : Nat} {cs : Array Value} (h : Blk W B e cs) (hb : Below W.heap.size W W') : Blk W' B e cs := by unfold Blk; rw [hb.block B h.lt]; exact h
theorem Blk.new (W : World) (e : Nat) (cs : Array Value) : Blk (W.alloc (.cells cs e)) W.heap.size e cs := heap_alloc_new W _
theorem Blk.set {W : World} {B e j : Nat} {cs : Array Value} (h : Blk W B e cs) (v : Value) : Blk (W.setCell ⟨B, j, none⟩ v) B e (cs.setIfInBounds j v) := heap_setCell_same _ _ _ _ _ _ h
theorem Blk.off {W : World} {B B' e j : Nat} {cs : Array Value} (h : Blk W B' e cs) (hne : B' ≠ B) (v : Value) : Blk (W.setCell ⟨B, j, none⟩ v) B' e cs := by
  unfold Blk; rw [heap_setCell_other _ _ _ _ hne]; exact h
theorem Blk.grown {W W' : World} {B e : Nat} {cs : Array Value} {r : Option Nat} (h : Blk W B e cs) (hg : W.grownBy W' r) (hne : some B ≠ r) : Blk W' B e cs := by
  unfold Blk; rw [hg.block B h.lt hne]; exact h

theorem blk_setCells {B e : Nat} : ∀ (vs pre old post : List Value) {W : World}, old.length = vs.length → Blk W B e (pre ++ old ++ post).toArray → Blk (W.setCells B pre.length vs) B e (pre ++ vs ++ post).toArray
  | [], pre, old, post, W, hl, h => by
    have : old = [] := List.eq_nil_of_length_eq_zero hl
    subst this; exact h
  | v :: r, pre, [], post, W, hl, h => by cases hl
  | v :: r, pre, x :: old, post, W, hl, h => by
    have h1 : Blk (W.setCell ⟨B, pre.length, none⟩ v) B e ((pre ++ [v]) ++ old ++ post).toArray := by
      have := h.set (j := pre.length) v
      simpa [List.setIfInBounds_toArray, List.set_append] using this
    have h2 := blk_setCells r (pre ++ [v]) old post (by simpa using hl) h1
    rw [List.length_append] at h2
    simpa [World.setCells] using h2
section
variable {P : Program} {ops : Array Oper} {Q : Exit → Act → World → Prop} {md : Region.Mode} {S : World → Prop}
/-- whichever of these comes up -/
def AllH (P : Program) (md : Region.Mode) (ops : Array Oper) (Q : Exit → Act → World → Prop) (S : World → Prop) (fuel : Nat) (listed : Array Bool) (a : Act) (w : World) (rs : List Nat) : Prop :=
  ∀ i ∈ rs, wpOp P ops Q i (fun a' w' => S w' ∧ wpAnyH P md ops Q S fuel (listed.setIfInBounds i true) a' w') a w
theorem AllH.nil {fuel : Nat} {listed : Array Bool} {a : Act} {w : World} : AllH P md ops Q S fuel listed a w [] := fun _ h => by cases h
theorem AllH.cons {fuel : Nat} {listed : Array Bool} {a : Act} {w : World} {i : Nat} {o : Oper} {rs : List Nat} (ho : ops[i]? = some o)
    (h : ∀ K' : Act → World → Prop, (∀ a w, (S w ∧ wpAnyH P md ops Q S fuel (listed.setIfInBounds i true) a w) → K' a w) → if Region.wanted o (yielded ops a.tmps) = true then Oper.wp P o a w K' Q else K' (a.put o.dst undef) w)
    (hs : AllH P md ops Q S fuel listed a w rs) : AllH P md ops Q S fuel listed a w (i :: rs) := fun j hj => by
  rcases List.mem_cons.1 hj with rfl | hj
  · exact wpOp_step ho h
  · exact hs j hj
end
theorem grown_set (w : World) (b j : Nat) (v : Value) : w.grownBy (w.setCell ⟨b, j, none⟩ v) (some b) :=
  ⟨rfl, rfl, rfl, by simp, fun k _ hk => heap_setCell_other _ _ _ _ (fun e => hk (by rw [e]))⟩
theorem grown_setCells {B : Nat} : ∀ (vs : List Value) (o : Nat) (w : World), w.grownBy (w.setCells B o vs) (some B)
  | [], _, _ => ⟨rfl, rfl, rfl, Nat.le_refl _, fun _ _ _ => rfl⟩
  | v :: r, o, w => (grown_set w B o v).trans (grown_setCells r (o + 1) _)
theorem cell_keep {W W' : World} {a : Addr} {v : Value} (h : W.cell? a = some v) (hb : Below W.heap.size W W') : W'.cell? a = some v := by rw [hb.cell (lt_of_cell h)]; exact h
end Go.Proofs.YtppefcnopkmhbaaGreatDoor

namespace Go.Proofs.YtppefcnopkmhbaaGreatDoor
open Go.RowKit

set_option maxRecDepth 8000
/-- a new list of bytes -/
def NewP (n : Nat) (l : List UInt8) (w : World) (e : Ending) (w' : World) : Prop := ∃ v, e = .returned v ∧ w'.ownsRow w.heap.size 5 1 v n (bv l) ∧ Below w.heap.size w w'
theorem own_tx {w : World} {base n : Nat} {v : Value} {l : List UInt8} (h : w.ownsRow base 5 1 v n (bv l)) (hb : n ≤ 150000000000000) : ∃ ao c, v = .slice ao n c ∧ Tx w ao n c l := by
  have hl : l.length = n := by have := h.1; rw [bv_length] at this; omega
  rcases h.2 with ⟨rfl, rfl⟩ | ⟨g, cap, cur, rfl, h1, h2, h3, h4, h5, h6⟩
  · have : l = [] := List.eq_nil_of_length_eq_zero hl
    subst this
    exact ⟨none, 0, rfl, tx_nil w⟩
  · refine ⟨_, cap, rfl, hl, h3, hb, (fun h => by cases h), fun a ha j hj => ?_⟩
    obtain rfl : (⟨g, 0, none⟩ : Addr) = a := by simpa using ha
    rw [add_none, Nat.zero_add, h.cellAt j (by omega)]
    exact bv_at l j (by omega)
set_option maxHeartbeats 1000000 in
theorem clone_any (ao : Option Addr) (n c : Nat) (l : List UInt8) (w : World) (hb : n ≤ 140737488355328) (h : Hid (Tx w ao n c l)) :
    Calls Tryz.prog 46 #[.slice ao n c] w fun e w' => NewP n l w e w' := by
  have hlen := Hid.mk' h.out.len
  have q22 : ∀ (w : World) (a : Option Addr) (n c n' c' : Nat), (binOp .eql 22 (.slice a n c) (.slice none n' c')).run Tryz.prog w = .ok (.bool a.isNone) w := fun w a n c n' c' => Lib.run_eql_slice_nil w _ _ a n c n' c' Tryz.underlying22
  cases ao with
  | none =>
    obtain ⟨rfl, rfl, rfl⟩ := h.out.none
    go_enter Tryz.func46, Tryz.ntmps46
    go_wp2
    go_ret
    exact ⟨_, rfl, ⟨rfl, .inl ⟨rfl, rfl⟩⟩, Below.refl _ _⟩
  | some a =>
    go_enter Tryz.func46, Tryz.ntmps46
    go_wp2_with (at_builtin; refine append_big rfl (.tmp 5) (.tmp 6) rfl w.heap.size (.slice (some ⟨w.heap.size, 0, none⟩) 0 0) 0 [] rfl (World.ownsRow_made w #[] 0 (Nat.le_refl _) (Nat.zero_le _) rfl) (.slice (some a) n c) n (bv l) rfl ((h.out.keep (bAlloc (Below.refl _ _) _)).srv) (by rw [bv_length]; exact hlen.out) (bv_one l) (by omega) (by omega) (by simp) ?_)
    intro v1 w1 hown hgrow _
    have HW1 : Hid (w1.ownsRow w.heap.size 5 1 v1 n (bv l)) := by unfold Hid; simpa using hown
    have L1 : Hid (Below w.heap.size w w1) := ((Below.refl _ w).alloc (Nat.le_refl _) _).grown hgrow (by simp) (by intro k hk; simp [Value.ownBlock] at hk; omega)
    clear hown hgrow
    go_wp2
    go_ret
    exact ⟨v1, rfl, HW1.out, L1.out⟩
theorem equal_any (a1 : Option Addr) (n1 c1 : Nat) (l1 : List UInt8) (a2 : Option Addr) (n2 c2 : Nat) (l2 : List UInt8) (w : World) (h1 : Hid (Tx w a1 n1 c1 l1)) (h2 : Hid (Tx w a2 n2 c2 l2)) :
    Calls Tryz.prog 79 #[.slice a1 n1 c1, .slice a2 n2 c2] w fun e w' => e = .returned (.bool (l1 == l2)) ∧ w' = w := by
  have e1 := conv_tx h1.out
  have e2 := conv_tx h2.out
  generalize hq : (l1 == l2) = q
  go_enter Tryz.func79, Tryz.ntmps79
  go_wp2
  go_ret
  exact ⟨by simp [← hq], rfl⟩
end Go.Proofs.YtppefcnopkmhbaaGreatDoor

namespace Go.Proofs.YtppefcnopkmhbaaGreatDoor
open Go.RowKit

set_option maxRecDepth 8000
theorem grown_setRow {W : World} {B : Nat} (cs : Array Value) : W.grownBy (W.setRow B cs) (some B) :=
  ⟨rfl, rfl, rfl, by simp [World.setRow], fun k _ hk => setRow_other W B k cs (fun e => hk (by rw [e]))⟩
theorem run_bg {w : World} (ty base : Nat)
    (v : Value) (n : Nat) (xs : List Value) (hown : w.ownsRow base 5 1 v n xs)
    (u : Value) (m : Nat) (news : List Value) (hsrc : Srv w u m news) (hl : news.length = m)
    (h1 : ∀ u ∈ news, u.oneCell' = true) (hb : n + m ≤ 150000000000000) (hm : m ≤ 140737488355328 ∨ v.ownBlock ≠ none) (hbase : base ≤ w.heap.size) :
    ∃ v' w', (Builtin.append_ #[22, 22] ty #[v, u]).run Tryz.prog w = .ok v' w' ∧ w'.ownsRow base 5 1 v' (n + m) (xs ++ news) ∧ w.grownBy w' v.ownBlock ∧ (v'.ownBlock = v.ownBlock ∨ ∃ q, v'.ownBlock = some q ∧ w.heap.size ≤ q) := by
  obtain ⟨i5, hi5, hz5, hs5, hb5⟩ := info_parts info5
  have hx0 := hown.1
  rcases hsrc with ⟨hu, h0, h2⟩ | ⟨ad, c, hu, hcell⟩
  · subst hu h0 h2
    exact ⟨v, w, run_append_owned_none (P := Tryz.prog) (w := w) base 22 ty 5 i5 1 Tryz.underlying22 hi5 v n xs hown, by simpa using hown, ⟨rfl, rfl, rfl, Nat.le_refl _, fun _ _ _ => rfl⟩, .inl rfl⟩
  · subst hu
    by_cases hsm : n + m ≤ 140737488355328
    · obtain ⟨v', w', hr, h2, h3, h4, h5⟩ := run_append_own_at (P := Tryz.prog) w base 22 ty 5 i5 (.int .u8 0) 1 1 Tryz.underlying22 hi5 hz5 hs5 hb5 rfl (by decide) v n xs hown ad m c news (by omega) hcell h1 (by unfold maxLen; omega) (by omega) hbase
      refine ⟨v', w', hr, h2, h3, ?_⟩
      rcases h5 with e | e
      · exact .inl e
      · exact .inr ⟨_, e, Nat.le_refl _⟩
    · rcases hown.2 with ⟨hv, hn0⟩ | ⟨g, cap, cur, hv, hbg, hg, hnc, hcm, hcs, htake⟩
      · rcases hm with hm | hm
        · omega
        · rw [hv] at hm; exact absurd rfl hm
      · subst hv
        have hge := grownCap_ge w (n + m) cap 5
        have hcm2 := grownCap_le_maxLen w (n + m) cap 5 (by unfold maxLen; omega)
        by_cases hroom : n + m ≤ cap
        · have hr := run_append_room (P := Tryz.prog) w 22 ty 5 i5 Tryz.underlying22 hi5 g n cap cur hg ad m c news (by rw [hs5]; omega) hcell h1 hroom (by rw [hs5]; omega)
          rw [hs5] at hr
          refine ⟨_, _, hr, ⟨by simp; omega, .inr ⟨g, cap, _, rfl, hbg, setRow_heap w g cur _ 5 _ hg, hroom, hcm, ?_, ?_⟩⟩, grown_setRow _, .inl rfl⟩
          · simp only [List.size_toArray, List.length_append, List.length_take, List.length_drop, Array.length_toList]
            omega
          · rw [htake]
            exact List.take_left' (by simp; omega)
        · have hcells : ∀ j t, xs[j]? = some t → w.cell? ((⟨g, 0, none⟩ : Addr).add j) = some t := hown.cells rfl
          have hq := next_quarter (show cap < n + m by omega)
          have hr := run_append_grow (P := Tryz.prog) w 22 ty 5 i5 (.int .u8 0) Tryz.underlying22 hi5 hz5 ⟨g, 0, none⟩ n cap xs (by rw [hs5]; omega) hcells ad m c news (by rw [hs5]; omega) hcell (by omega) (by omega) (by rw [hb5]; omega)
          refine ⟨_, _, hr, ⟨by simp; omega, .inr ⟨w.heap.size, _, _, rfl, hbase, heap_alloc_new w.drew _, hge, hcm2, ?_, ?_⟩⟩, ⟨rfl, rfl, rfl, by simp, fun k hk _ => heap_alloc_old w.drew _ hk⟩, .inr ⟨w.heap.size, rfl, Nat.le_refl _⟩⟩
          · simp only [Array.size_append, List.size_toArray, size_zeroCells, Value.cells, hl]
            simp; omega
          · simp only [Array.toList_append, List.append_assoc]
            rw [← List.append_assoc]
            exact List.take_left' (by simp; omega)
theorem at8_drop (l : List UInt8) (s j : Nat) : at8 (l.drop s) j = at8 l (s + j) := by simp [at8, List.getD]
theorem add_add (a : Addr) (l j : Nat) (hl : 0 < l) : (a.add l).add j = a.add (l + j) := by
  unfold Addr.add
  by_cases hj : j = 0
  · subst hj; simp
  · rw [if_neg hj, if_neg (by omega), if_neg (by omega)]; simp; omega
theorem Tx.tail0 {w : World} {a : Addr} {n c s : Nat} {l : List UInt8} (h : Tx w (some a) n c l) (hs : s ≤ n) (hc : c = s) : Tx w (some a) (n - s) 0 (l.drop s) :=
  ⟨by rw [List.length_drop, h.len], by have := h.cap; omega, by have := h.big; omega, fun _ => rfl, fun _ _ j hj => by have := h.cap; omega⟩
theorem Tx.tail {w : World} {a : Addr} {n c s : Nat} {l : List UInt8} (h : Tx w (some a) n c l) (hs : s ≤ n) : Tx w (some (a.add s)) (n - s) (c - s) (l.drop s) := by
  refine ⟨by rw [List.length_drop, h.len], by have := h.cap; omega, by have := h.big; omega, fun h => by simp at h, fun a' ha j hj => ?_⟩
  have e : a.add s = a' := by simpa using ha
  subst e
  rw [at8_drop]
  rcases Nat.eq_zero_or_pos s with h0 | h0
  · subst h0
    have := h.cells a rfl j (by omega)
    simpa [Addr.add] using this
  · rw [add_add a s j h0]
    exact h.cells a rfl (s + j) (by omega)
theorem Tx.head {w : World} {ao : Option Addr} {n c i : Nat} {l : List UInt8} (h : Tx w ao n c l) (hi : i ≤ n) : Tx w ao i c (l.take i) := by
  refine ⟨by rw [List.length_take, h.len]; omega, by have := h.cap; omega, by have := h.big; omega, h.nil, fun a ha j hj => ?_⟩
  rw [h.cells a ha j (by omega)]
  have : at8 (l.take i) j = at8 l j := by simp [at8, List.getD, hj]
  rw [this]

theorem size5 (w : World) : (sizeOf 5).run Tryz.prog w = .ok 1 w := by kernel_rfl
theorem elem22 : Tryz.prog.elem 22 = 5 := by kernel_rfl
theorem und22 : Tryz.prog.underlying 22 = some (.slice (Tryz.prog.elem 22)) := by kernel_rfl
/-- u[lo:lo + m] -/
theorem sl_lh {w : World} {ua : Option Addr} {n c lo m : Nat} {u : List UInt8} (h : Tx w ua n c u) (hm : lo + m ≤ n) : ∃ a' c', (∀ W, (Instr.sliceAt 22 (.slice ua n c) (some (.int .i64 (lo : Int))) (some (.int .i64 ((lo : Int) + (m : Int)))) none).run Tryz.prog W = .ok (.slice a' m c') W) ∧ Tx w a' m c' ((u.drop lo).take m) := by
  have hc := h.cap
  have hr : ∀ W, (Instr.sliceAt 22 (.slice ua n c) (some (.int .i64 (lo : Int))) (some (.int .i64 ((lo : Int) + (m : Int)))) none).run Tryz.prog W = .ok (sliced ua lo (lo + m) c 1) W := fun W => by
    rw [run_sliceAt_slice W 22 _ _ _ _ und22, run_slice_lh W 22 ua n c und22 .i64 .i64 (lo : Int) ((lo : Int) + (m : Int)) (by omega) (by omega) (by omega), elem22, size5]
    show Result.ok (sliced ua (lo : Int).toNat ((lo : Int) + (m : Int)).toNat c 1) W = _
    rw [show (lo : Int).toNat = lo by omega, show ((lo : Int) + (m : Int)).toNat = lo + m by omega]
  cases ua with
  | none =>
    obtain ⟨rfl, rfl, rfl⟩ := h.none
    refine ⟨none, 0 - lo, fun W => ?_, ?_⟩
    · rw [hr W]; unfold sliced; rw [show lo + m - lo = m by omega]; split <;> rfl
    · obtain rfl : m = 0 := by omega
      obtain rfl : lo = 0 := by omega
      exact tx_nil w
  | some a =>
    by_cases hcl : c = lo
    · refine ⟨some a, 0, fun W => ?_, ?_⟩
      · rw [hr W]; unfold sliced; rw [if_pos hcl, show lo + m - lo = m by omega, show c - lo = 0 by omega]
      · have := (h.tail0 (s := lo) (by omega) hcl).head (i := m) (by omega)
        exact this
    · refine ⟨some (a.add lo), c - lo, fun W => ?_, ?_⟩
      · rw [hr W]; unfold sliced; rw [if_neg hcl, show lo + m - lo = m by omega, Nat.mul_one]; rfl
      · exact (h.tail (s := lo) (by omega)).head (i := m) (by omega)
/-- u[:m] -/
theorem sl_h {w : World} {ua : Option Addr} {n c m : Nat} {u : List UInt8} (h : Tx w ua n c u) (hm : m ≤ n) : ∃ a' c', (∀ W, (Instr.sliceAt 22 (.slice ua n c) none (some (.int .i64 (m : Int))) none).run Tryz.prog W = .ok (.slice a' m c') W) ∧ Tx w a' m c' (u.take m) := by
  have hc := h.cap
  have hr : ∀ W, (Instr.sliceAt 22 (.slice ua n c) none (some (.int .i64 (m : Int))) none).run Tryz.prog W = .ok (sliced ua 0 m c 1) W := fun W => by
    rw [run_sliceAt_slice W 22 _ _ _ _ und22, run_slice_h W 22 ua n c und22 .i64 (m : Int) (by omega) (by omega), elem22, size5]
    rfl
  refine ⟨ua, c, fun W => ?_, h.head hm⟩
  rw [hr W]
  unfold sliced
  cases ua with
  | none => simp
  | some a => simp [Addr.add]
/-- u[lo:] -/
theorem sl_l {w : World} {ua : Option Addr} {n c lo : Nat} {u : List UInt8} {z : Int} (h : Tx w ua n c u) (hm : lo ≤ n) (hz : z = (lo : Int)) : ∃ a' c', (∀ W, (Instr.sliceAt 22 (.slice ua n c) (some (.int .i64 z)) none none).run Tryz.prog W = .ok (.slice a' (n - lo) c') W) ∧ Tx w a' (n - lo) c' (u.drop lo) := by
  subst hz
  have hc := h.cap
  have hr : ∀ W, (Instr.sliceAt 22 (.slice ua n c) (some (.int .i64 (lo : Int))) none none).run Tryz.prog W = .ok (sliced ua lo n c 1) W := fun W => by
    rw [run_sliceAt_slice W 22 _ _ _ _ und22, run_slice_l W 22 ua n c und22 .i64 (lo : Int) (by omega) (by omega), elem22, size5]
    rfl
  cases ua with
  | none =>
    obtain ⟨rfl, rfl, rfl⟩ := h.none
    refine ⟨none, 0 - lo, fun W => ?_, ?_⟩
    · rw [hr W]; unfold sliced; split <;> rfl
    · obtain rfl : lo = 0 := by omega
      exact tx_nil w
  | some a =>
    by_cases hcl : c = lo
    · refine ⟨some a, 0, fun W => ?_, h.tail0 hm hcl⟩
      rw [hr W]; unfold sliced; rw [if_pos hcl, show c - lo = 0 by omega]
    · refine ⟨some (a.add lo), c - lo, fun W => ?_, h.tail hm⟩
      rw [hr W]; unfold sliced; rw [if_neg hcl, Nat.mul_one]; rfl
theorem ne9_no (x : List UInt8) (W : World) : (binOp .neq 9 (.string ⟨x.toArray⟩) (.string ⟨x.toArray⟩)).run Tryz.prog W = .ok (.bool false) W := by
  simp [binOp, Op.stringOp]
end Go.Proofs.YtppefcnopkmhbaaGreatDoor
