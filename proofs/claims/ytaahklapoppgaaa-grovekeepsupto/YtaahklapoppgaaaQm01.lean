/- A copy of the text with two bytes behind it. -/
import Derived.Test.YtaahklapoppgaaaQm00
import Derived.Lib.BufferRead
import Derived.Deep.MidRow
import Derived.Deep.LoopGhost
import Derived.Deep.RegionHeld3
import Derived.Deep.CutRange
import Derived.Deep.RegionLaw
import Derived.Deep.QuietTactic
import Derived.OrdersHeld
namespace Go.Proofs.Ytaahklapoppgaaa
open Go.RowKit

/-- bytes as cells -/
def bv (l : List UInt8) : List Value := l.map fun b => Value.int .u8 (b.toNat : Int)
theorem bv_length (l : List UInt8) : (bv l).length = l.length := by simp [bv]
theorem bv_at (l : List UInt8) (j : Nat) (h : j < l.length) : (bv l)[j]? = some (.int .u8 ((at8 l j).toNat : Int)) := by simp [bv, at8, h]
theorem bv_one (l : List UInt8) : ∀ u ∈ bv l, u.oneCell' = true := by
  intro u hu; obtain ⟨x, _, rfl⟩ := List.mem_map.1 hu; rfl
theorem info5 : (Try.prog.info? 5).map (fun i => (i.zero, i.size, i.bytes)) = some (some (.int .u8 0), 1, 1) := by kernel_rfl
theorem Tx.srv {w : World} {ao : Option Addr} {n c : Nat} {l : List UInt8} (h : Tx w ao n c l) : Srv w (.slice ao n c) n (bv l) := by
  cases ao with
  | none =>
    obtain ⟨rfl, rfl, rfl⟩ := h.none
    exact .inl ⟨rfl, rfl, rfl⟩
  | some a =>
    refine .inr ⟨a, c, rfl, fun j t hj => ?_⟩
    have hlt := (List.getElem?_eq_some_iff.1 hj).1
    rw [bv_length] at hlt
    rw [bv_at l j hlt] at hj
    rw [← hj]
    exact h.cells a rfl j (by rw [← h.len]; exact hlt)
theorem own_some {w : World} {base e size n : Nat} {v : Value} {xs : List Value} (h : w.ownsRow base e size v n xs) (hn : 1 ≤ n) : ∃ g cap, v = .slice (some ⟨g, 0, none⟩) n cap ∧ n ≤ cap ∧ cap ≤ maxLen := by
  rcases h.2 with ⟨_, h0⟩ | ⟨g, cap, cur, rfl, _, _, h1, h2, _⟩
  · omega
  · exact ⟨g, cap, rfl, h1, h2⟩
theorem conv_tx {W : World} {ao : Option Addr} {n c : Nat} {l : List UInt8} (h : Tx W ao n c l) : (convert 70 9 (.slice ao n c)).run Try.prog W = .ok (.string ⟨l.toArray⟩) W := by
  cases ao with
  | none =>
    obtain ⟨rfl, rfl, rfl⟩ := h.none
    exact Lib.run_convert_nil_bytes W 70 9 5 0 Try.underlying70 Try.underlying5 Try.underlying9
  | some a =>
    have := run_convert_bytes_back W 70 9 5 a c l Try.underlying70 Try.underlying5 Try.underlying9 (fun j hj => by rw [h.cells a rfl j (by rw [← h.len]; exact hj), at8_eq hj])
    rwa [h.len] at this
def mk2 : List Value := [.int .u8 77, .int .u8 78]
/-- what was lent reads as the text -/
theorem lent_tx {w : World} {g cap base n : Nat} {l : List UInt8} (hl : l.length = n) (hb : n ≤ 150000000000000) (h : w.ownsRow base 5 1 (.slice (some ⟨g, 0, none⟩) (n + 2) cap) (n + 2) (bv l ++ mk2)) : Tx w (some ⟨g, 0, none⟩) n cap l := by
  obtain ⟨g', cap', hv, hc1, hc2⟩ := own_some h (by omega)
  have hcap : n + 2 ≤ cap := by simp at hv; omega
  refine ⟨hl, by omega, hb, (fun h => by cases h), fun a ha j hj => ?_⟩
  obtain rfl : (⟨g, 0, none⟩ : Addr) = a := by simpa using ha
  rw [add_none, Nat.zero_add, h.cellAt j (by omega), List.getElem?_append_left (by rw [bv_length]; omega)]
  exact bv_at l j (by omega)

/-- and all of it as the text with two bytes more -/
theorem lent_all {w : World} {g cap base n : Nat} {l : List UInt8} (hl : l.length = n) (hb : n + 2 ≤ 150000000000000) (h : w.ownsRow base 5 1 (.slice (some ⟨g, 0, none⟩) (n + 2) cap) (n + 2) (bv l ++ mk2)) : Tx w (some ⟨g, 0, none⟩) (n + 2) cap (l ++ [77, 78]) := by
  obtain ⟨g', cap', hv, hc1, hc2⟩ := own_some h (by omega)
  have hcap : n + 2 ≤ cap := by simp at hv; omega
  have e : bv l ++ mk2 = bv (l ++ [77, 78]) := by simp [bv, mk2]
  rw [e] at h
  refine ⟨by simp; omega, by omega, hb, (fun h => by cases h), fun a ha j hj => ?_⟩
  obtain rfl : (⟨g, 0, none⟩ : Addr) = a := by simpa using ha
  rw [add_none, Nat.zero_add, h.cellAt j (by omega)]
  exact bv_at _ j (by simp; omega)
end Go.Proofs.Ytaahklapoppgaaa

/- append onto a row of bytes of the call's own, up to 150000000000000 bytes: a new row asks for at most a quarter more. -/
namespace Go.Proofs.Ytaahklapoppgaaa
open Go.RowKit

theorem next_quarter {need old : Nat} (h : old < need) : Builtin.nextslicecap need old ≤ need + need / 4 + 256 := by
  unfold Builtin.nextslicecap
  split
  · omega
  · split
    · omega
    · rw [growBy_four]
      repeat' split
      all_goals omega

/-- append of whatever bytes there are, to a list that is owned -/
theorem append_big {w : World} {ops : Array Oper} {rest : List Oper} {o : Oper} {a : Act} {Q : Exit → Act → World → Prop} (hgd : o.guard = none) (s x : Operand)
    (ho : o.op = .call { callee := .builtin .append, args := #[s, x], argTypes := #[70, 70] }) (base : Nat)
    (v : Value) (n : Nat) (xs : List Value) (hs : a.eval s = v) (hown : w.ownsRow base 5 1 v n xs)
    (u : Value) (m : Nat) (news : List Value) (hx : a.eval x = u) (hsrc : Srv w u m news) (hl : news.length = m)
    (h1 : ∀ u ∈ news, u.oneCell' = true) (hb : n + m ≤ 150000000000000) (hm : m ≤ 140737488355328) (hbase : base ≤ w.heap.size)
    (h : ∀ v' w', w'.ownsRow base 5 1 v' (n + m) (xs ++ news) → w.grownBy w' v.ownBlock → (v'.ownBlock = v.ownBlock ∨ ∃ q, v'.ownBlock = some q ∧ w.heap.size ≤ q) → wpList Try.prog ops Q rest (a.put o.dst v') w') :
    wpList Try.prog ops Q (o :: rest) a w := by
  obtain ⟨i5, hi5, hz5, hs5, hb5⟩ := info_parts info5
  by_cases hsm : n + m ≤ 140737488355328
  · exact append_srv hgd s x 70 ho base 5 i5 (.int .u8 0) 1 1 Try.underlying70 hi5 hz5 hs5 hb5 rfl (by decide) v n xs hs hown u m news hx hsrc (by omega) h1 (by unfold maxLen; omega) (by omega) hbase h
  · have hx0 := hown.1
    rcases hsrc with ⟨hu, h0, h2⟩ | ⟨ad, c, hu, hcell⟩
    · subst hu h0 h2
      refine wpList_plain hgd fun K hK => ?_
      have hrun := run_append_owned_none (P := Try.prog) (w := w) base 70 o.type 5 i5 1 Try.underlying70 hi5 v n xs hown
      unfold Oper.wp
      simp [execOp, ho, resolve, invoke, builtin, hs, hx, hrun, Result.andThen]
      exact hK _ _ (h v w (by simpa using hown) ⟨rfl, rfl, rfl, Nat.le_refl _, fun _ _ _ => rfl⟩ (.inl rfl))
    · subst hu
      rcases hown.2 with ⟨hv, hn0⟩ | ⟨g, cap, cur, hv, hbg, hg, hnc, hcm, hcs, htake⟩
      · omega
      · subst hv
        by_cases hroom : n + m ≤ cap
        · refine wpList_append_fits w hgd s x 70 ho base 5 i5 1 Try.underlying70 hi5 hs5 g n cap xs hs hown ad m c news hx (by omega) hcell h1 hroom ?_
          intro w' h2 h3
          exact h _ w' h2 h3 (.inl rfl)
        · refine wpList_plain hgd fun K hK => ?_
          have hcells : ∀ j t, xs[j]? = some t → w.cell? ((⟨g, 0, none⟩ : Addr).add j) = some t := hown.cells rfl
          have hq := next_quarter (show cap < n + m by omega)
          have hr := run_append_grow (P := Try.prog) w 70 o.type 5 i5 (.int .u8 0) Try.underlying70 hi5 hz5 ⟨g, 0, none⟩ n cap xs (by rw [hs5]; omega) hcells ad m c news (by rw [hs5]; omega) hcell (by omega) (by omega) (by rw [hb5]; omega)
          have hge := grownCap_ge w (n + m) cap 5
          have hcm2 := grownCap_le_maxLen w (n + m) cap 5 (by unfold maxLen; omega)
          unfold Oper.wp execOp
          simp only [ho, resolve, invoke, builtin, Sem.run_bind, Sem.run_pure, Result.andThen_ok, List.map_toArray, List.map_cons, List.map_nil, hs, hx, hr]
          refine hK _ _ (h _ _ ⟨by simp; omega, .inr ⟨w.heap.size, _, _, rfl, hbase, heap_alloc_new w.drew _, hge, hcm2, ?_, ?_⟩⟩ ⟨rfl, rfl, rfl, by simp, fun k hk _ => heap_alloc_old w.drew _ hk⟩ (.inr ⟨w.heap.size, rfl, Nat.le_refl _⟩))
          · simp only [Array.size_append, List.size_toArray, size_zeroCells, Value.cells, hl]
            simp; omega
          · simp only [Array.toList_append, List.append_assoc]
            rw [← List.append_assoc]
            exact List.take_left' (by simp; omega)
end Go.Proofs.Ytaahklapoppgaaa

/- Blocks known whole; regions that draw their order. -/
namespace Go.Proofs.Ytaahklapoppgaaa
open Go.RowKit

def Blk (W : World) (B : Nat) (e : Nat) (cs : Array Value) : Prop := W.heap[B]? = some (.cells cs e (0, 0))
theorem Blk.cell {W : World} {B e j : Nat} {cs : Array Value} {v : Value} (h : Blk W B e cs) (hj : cs[j]? = some v) : W.cell? ⟨B, j, none⟩ = some v := by
  rw [cell_of_row W B j cs e (0, 0) h]; exact hj
theorem Blk.frozen {W : World} {B e : Nat} {cs : Array Value} (h : Blk W B e cs) (j : Nat) : W.frozen? ⟨B, j, none⟩ = false := frozen_of_row W B j cs e h
theorem Blk.lt {W : World} {B e : Nat} {cs : Array Value} (h : Blk W B e cs) : B < W.heap.size := (Array.getElem?_eq_some_iff.1 h).1
theorem Blk.keep {W W' : World} {B e : Nat} {cs : Array Value} (h : Blk W B e cs) (hb : Below W.heap.size W W') : Blk W' B e cs := by unfold Blk; rw [hb.block B h.lt]; exact h
theorem Blk.new (W : World) (e : Nat) (cs : Array Value) : Blk (W.alloc (.cells cs e)) W.heap.size e cs := heap_alloc_new W _
theorem Blk.set {W : World} {B e j : Nat} {cs : Array Value} (h : Blk W B e cs) (v : Value) : Blk (W.setCell ⟨B, j, none⟩ v) B e (cs.setIfInBounds j v) := heap_setCell_same _ _ _ _ _ _ h
theorem Blk.off {W : World} {B B' e j : Nat} {cs : Array Value} (h : Blk W B' e cs) (hne : B' ≠ B) (v : Value) : Blk (W.setCell ⟨B, j, none⟩ v) B' e cs := by
  unfold Blk; rw [heap_setCell_other _ _ _ _ hne]; exact h
theorem Blk.grown {W W' : World} {B e : Nat} {cs : Array Value} {r : Option Nat} (h : Blk W B e cs) (hg : W.grownBy W' r) (hne : some B ≠ r) : Blk W' B e cs := by
  unfold Blk; rw [hg.block B h.lt hne]; exact h

/-- cells stored one behind the other -/
theorem below_setCells {a : World} {n B : Nat} (hb : n ≤ B) : ∀ (vs : List Value) (o : Nat) {W : World}, Below n a W → Below n a (W.setCells B o vs)
  | [], _, _, h => h
  | v :: r, o, _, h => below_setCells hb r (o + 1) (h.setCell hb v)
theorem blk_setCells_off {B B' e : Nat} {cs : Array Value} (hne : B' ≠ B) : ∀ (vs : List Value) (o : Nat) {W : World}, Blk W B' e cs → Blk (W.setCells B o vs) B' e cs
  | [], _, _, h => h
  | v :: r, o, _, h => blk_setCells_off hne r (o + 1) (h.off hne v)
theorem blk_setCells {B e : Nat} : ∀ (vs pre old post : List Value) {W : World}, old.length = vs.length → Blk W B e (pre ++ old ++ post).toArray → Blk (W.setCells B pre.length vs) B e (pre ++ vs ++ post).toArray
  | [], pre, old, post, W, hl, h => by
    have : old = [] := List.eq_nil_of_length_eq_zero hl
    subst this; exact h
  | v :: r, pre, [], post, W, hl, h => by cases hl
  | v :: r, pre, x :: old, post, W, hl, h => by
    have h1 : Blk (W.setCell ⟨B, pre.length, none⟩ v) B e ((pre ++ [v]) ++ old ++ post).toArray := by
      have := h.set (j := pre.length) v
      simpa [List.setIfInBounds_toArray, List.set_append] using this
    have h2 := blk_setCells r (pre ++ [v]) old post (by simpa using hl) h1
    rw [List.length_append] at h2
    simpa [World.setCells] using h2
theorem blk_range {W : World} {B e : Nat} {pre mid post : List Value} (h : Blk W B e (pre ++ mid ++ post).toArray) : W.rangeAt B pre.length mid := by
  intro j v hv
  refine h.cell ?_
  rw [List.getElem?_toArray, List.append_assoc, List.getElem?_append_right (by omega), show pre.length + j - pre.length = j by omega, List.getElem?_append_left (List.getElem?_eq_some_iff.1 hv).1]
  exact hv
theorem blk_there {W : World} {B e : Nat} {pre mid post : List Value} (h : Blk W B e (pre ++ mid ++ post).toArray) : W.there B pre.length mid.length := by
  intro j hj
  refine ⟨?_, h.frozen _⟩
  have := blk_range h j mid[j] (List.getElem?_eq_getElem hj)
  rw [this]; rfl


section
variable {P : Program} {ops : Array Oper} {Q : Exit → Act → World → Prop} {md : Region.Mode} {S : World → Prop}
/-- whichever of these comes up -/
def AllH (P : Program) (md : Region.Mode) (ops : Array Oper) (Q : Exit → Act → World → Prop) (S : World → Prop) (fuel : Nat) (listed : Array Bool) (a : Act) (w : World) (rs : List Nat) : Prop :=
  ∀ i ∈ rs, wpOp P ops Q i (fun a' w' => S w' ∧ wpAnyH P md ops Q S fuel (listed.setIfInBounds i true) a' w') a w
theorem AllH.nil {fuel : Nat} {listed : Array Bool} {a : Act} {w : World} : AllH P md ops Q S fuel listed a w [] := fun _ h => by cases h
theorem AllH.cons {fuel : Nat} {listed : Array Bool} {a : Act} {w : World} {i : Nat} {o : Oper} {rs : List Nat} (ho : ops[i]? = some o)
    (h : ∀ K' : Act → World → Prop, (∀ a w, (S w ∧ wpAnyH P md ops Q S fuel (listed.setIfInBounds i true) a w) → K' a w) → if Region.wanted o (yielded ops a.tmps) = true then Oper.wp P o a w K' Q else K' (a.put o.dst undef) w)
    (hs : AllH P md ops Q S fuel listed a w rs) : AllH P md ops Q S fuel listed a w (i :: rs) := fun j hj => by
  rcases List.mem_cons.1 hj with rfl | hj
  · exact wpOp_step ho h
  · exact hs j hj
end
theorem grown_set (w : World) (b j : Nat) (v : Value) : w.grownBy (w.setCell ⟨b, j, none⟩ v) (some b) :=
  ⟨rfl, rfl, rfl, by simp, fun k _ hk => heap_setCell_other _ _ _ _ (fun e => hk (by rw [e]))⟩
theorem grown_setCells {B : Nat} : ∀ (vs : List Value) (o : Nat) (w : World), w.grownBy (w.setCells B o vs) (some B)
  | [], _, _ => ⟨rfl, rfl, rfl, Nat.le_refl _, fun _ _ _ => rfl⟩
  | v :: r, o, w => (grown_set w B o v).trans (grown_setCells r (o + 1) _)
theorem cell_keep {W W' : World} {a : Addr} {v : Value} (h : W.cell? a = some v) (hb : Below W.heap.size W W') : W'.cell? a = some v := by rw [hb.cell (lt_of_cell h)]; exact h
end Go.Proofs.Ytaahklapoppgaaa

namespace Go.Proofs.Ytaahklapoppgaaa
open Go.RowKit

theorem jj1 {α : Type} {xs : List α} {i : Nat} (h : i < xs.toArray.size) : xs.toArray[i] = xs[i]'(by simpa using h) := List.getElem_toArray h
theorem jj2 {α : Type} (a : α) (xs : List α) (h : 0 < (a :: xs).length) : (a :: xs)[0] = a := rfl
theorem jj3 {α : Type} (a : α) (xs : List α) (i : Nat) (h : i + 1 < (a :: xs).length) : (a :: xs)[i + 1] = xs[i]'(Nat.lt_of_succ_lt_succ h) := rfl
theorem jj4 {α : Type} (l : List α) (i : Nat) (a : α) : l.toArray.setIfInBounds i a = (l.set i a).toArray := List.setIfInBounds_toArray l i a
theorem jj5 {α : Type} {x : α} {xs : List α} {a : α} : (x :: xs).set 0 a = a :: xs := rfl
theorem jj6 {α : Type} {x : α} {xs : List α} {i : Nat} {a : α} : (x :: xs).set (i + 1) a = x :: xs.set i a := rfl
section
variable {P : Program} {ops : Array Oper} {Q : Exit → Act → World → Prop} {md : Region.Mode} {S : World → Prop}
/-- an operation of a region that draws, its value told -/
theorem ta {oi : Oper} {fuel : Nat} {listed : Array Bool} {a : Act} {w : World} (i : Nat) (v : Value) (hi : ops[i]? = some oi) (hy : YieldsIf P ops S oi v a) (hS : S w) (h : wpAnyH P md ops Q S fuel (listed.setIfInBounds i true) (a.put oi.dst v) w)
    (hs : Region.noSelect ops = true := by kernel_rfl) (hf : Region.free md ops listed i = true := by kernel_rfl) (hr : (Region.ready md ops listed).contains i = true := by kernel_rfl) (hQ : ∀ c a w, Q (.panic c) (a.put oi.dst v) w → Q (.panic c) a w := by exact fun _ _ _ h => h) : wpAnyH P md ops Q S (fuel + 1) listed a w := wpAnyH_take hi hs hf hr hQ hy hS h
theorem tk {oi : Oper} {fuel : Nat} {listed : Array Bool} {a : Act} {w : World} (i : Nat) (v : Value) (hS : S w) (h : wpAnyH P md ops Q S fuel (listed.setIfInBounds i true) (a.put oi.dst v) w) (hi : ops[i]? = some oi := by rfl)
    (hs : Region.noSelect ops = true := by kernel_rfl) (hf : Region.free md ops listed i = true := by kernel_rfl) (hr : (Region.ready md ops listed).contains i = true := by kernel_rfl) (hQ : ∀ c a w, Q (.panic c) (a.put oi.dst v) w → Q (.panic c) a w := by exact fun _ _ _ h => h) (hy : YieldsIf P ops S oi v a := by exact Yields.yieldsIf (Or.inl ⟨by rfl, fun w => by go_simp⟩)) : wpAnyH P md ops Q S (fuel + 1) listed a w := wpAnyH_take hi hs hf hr hQ hy hS h
end
end Go.Proofs.Ytaahklapoppgaaa

/- Marks in memory: 27 numbers, one behind the other. -/
namespace Go.Proofs.Ytaahklapoppgaaa
open Go.RowKit

/-- marks as cells -/
def ml (L : List Int) : List Value := L.map fun x => Value.int .i64 x
def mk (L : List Int) : Array Value := (ml L).toArray
theorem ml_len (L : List Int) : (ml L).length = L.length := by simp [ml]
theorem mk_size (L : List Int) : (mk L).size = L.length := by simp [mk, ml]
theorem ml_append (A C : List Int) : ml (A ++ C) = ml A ++ ml C := by simp [ml]
theorem ml_one (L : List Int) : ∀ v ∈ ml L, v.oneCell' = true := by
  intro v hv
  obtain ⟨x, _, rfl⟩ := List.mem_map.1 hv
  rfl
theorem mk_at {L : List Int} {k : Nat} {x : Int} (h : L[k]? = some x) : (mk L)[k]? = some (.int .i64 x) := by simp [mk, ml, h]
theorem mk_set (L : List Int) (k : Nat) (x : Int) : (mk L).setIfInBounds k (.int .i64 x) = mk (L.set k x) := by
  simp [mk, ml, List.setIfInBounds_toArray, List.map_set]
theorem Blk.mkAt {W : World} {B e k : Nat} {L : List Int} {x : Int} (h : Blk W B e (mk L)) (hk : L[k]? = some x) : W.cell? ⟨B, k, none⟩ = some (.int .i64 x) := h.cell (mk_at hk)
theorem Blk.mkSet {W : World} {B e k : Nat} {L : List Int} (h : Blk W B e (mk L)) (x : Int) : Blk (W.setCell ⟨B, k, none⟩ (.int .i64 x)) B e (mk (L.set k x)) := by
  have := h.set (j := k) (.int .i64 x)
  rwa [mk_set] at this

theorem info24 : (Try.prog.info? 41).map (·.size) = some 27 := by kernel_rfl
theorem info22 : (Try.prog.info? 39).map (·.size) = some 26 := by kernel_rfl
/-- no place anywhere -/
def zm : List Int := List.replicate 27 0
theorem z24 (w : World) : (zeroValue 41).run Try.prog w = .ok (.agg (mk zm)) w := by
  have h : (Try.prog.info? 41).map (·.zero) = some (some (.agg (mk zm))) := by kernel_rfl
  cases hq : Try.prog.info? 41 with
  | none => rw [hq] at h; cases h
  | some i =>
    rw [hq] at h
    simp at h
    simp [zeroValue, typeInfo, hq, h]
theorem b24 (w : World) : (Instr.build 41 #[]).run Try.prog w = .ok (.agg (mk zm)) w := by kernel_rfl
theorem b24b (w : World) : (Instr.build 41 #[(1, .int .i64 (-1))]).run Try.prog w = .ok (.agg (mk (List.replicate 26 0 ++ [-1]))) w := by kernel_rfl
theorem ld24 {W : World} {B : Nat} {L : List Int} (hL : L.length = 27) (h : Blk W B 41 (mk L)) : (loadVar 41 ⟨B, 0, none⟩).run Try.prog W = .ok (.agg (mk L)) W :=
  run_loadVar_mid W B 0 41 (ml L) _ (blk_range (pre := []) (mid := ml L) (post := []) (by simpa [mk] using h)) Try.underlying41 rfl (by rw [info24, ml_len, hL])
/-- marks stored over others -/
def put24 (W : World) (B : Nat) (L : List Int) : World := W.setCells B 0 (ml L)
theorem Blk.put24 {W : World} {B : Nat} {L M : List Int} (hL : L.length = 27) (hM : M.length = 27) (h : Blk W B 41 (mk M)) : Blk (put24 W B L) B 41 (mk L) := by
  have := blk_setCells (ml L) [] (ml M) [] (by rw [ml_len, ml_len, hL, hM]) (by simpa [mk] using h)
  simpa [mk, Go.Proofs.Ytaahklapoppgaaa.put24] using this
theorem Blk.put24_off {W : World} {B B' e : Nat} {cs : Array Value} (h : Blk W B' e cs) (hne : B' ≠ B) (L : List Int) : Blk (Go.Proofs.Ytaahklapoppgaaa.put24 W B L) B' e cs := blk_setCells_off hne _ _ h
theorem below_put24 {a W : World} {n B : Nat} (h : Below n a W) (hb : n ≤ B) (L : List Int) : Below n a (put24 W B L) := below_setCells hb _ _ h
theorem size_setCells {B : Nat} : ∀ (vs : List Value) (o : Nat) (W : World), (W.setCells B o vs).heap.size = W.heap.size
  | [], _, _ => rfl
  | v :: r, o, W => by
    have := size_setCells (B := B) r (o + 1) (W.setCell ⟨B, o, none⟩ v)
    simpa [World.setCells] using this
theorem size_put24 (W : World) (B : Nat) (L : List Int) : (put24 W B L).heap.size = W.heap.size := size_setCells _ _ _
section
variable {ops : Array Oper} {rest : List Oper} {op : Oper} {a : Act} {w : World} {Q : Exit → Act → World → Prop} {L M : List Int} {B : Nat}
theorem wl_load24 (x : Operand) (hgd : op.guard = none) (ho : op.op = .load 41 x) (hx : a.eval x = .pointer (some ⟨B, 0, none⟩)) (hL : L.length = 27) (h : Blk w B 41 (mk L)) (hr : wpList Try.prog ops Q rest (a.put op.dst (.agg (mk L))) w) : wpList Try.prog ops Q (op :: rest) a w :=
  wpList_load_mid hgd 41 x ho B 0 hx (ml L) _ (blk_range (pre := []) (mid := ml L) (post := []) (by simpa [mk] using h)) Try.underlying41 rfl (by rw [info24, ml_len, hL]) hr
theorem wl_store24 (x y : Operand) (hgd : op.guard = none) (ho : op.op = .store 41 x y) (hx : a.eval x = .pointer (some ⟨B, 0, none⟩)) (hy : a.eval y = .agg (mk L)) (hL : L.length = 27) (hM : M.length = 27) (h : Blk w B 41 (mk M)) (hr : wpList Try.prog ops Q rest (a.put op.dst undef) (put24 w B L)) : wpList Try.prog ops Q (op :: rest) a w := by
  have ht : w.there B 0 (mk L).size := by
    have := blk_there (pre := []) (mid := ml M) (post := []) (by simpa [mk] using h)
    rw [ml_len, hM] at this
    rw [mk_size, hL]; exact this
  exact wpList_store_mid hgd 41 x y ho B 0 (mk L) hx hy ht (by rw [info24, mk_size, hL]) (all_oneCell_toArray (ml_one L)) (by simpa [put24, mk] using hr)
theorem wl_load22 (x : Operand) (hgd : op.guard = none) (ho : op.op = .load 39 x) (hx : a.eval x = .pointer (some ⟨B, 0, none⟩)) (m : List Int) (q : Int) (hm : m.length = 26) (h : Blk w B 41 (mk (m ++ [q]))) (hr : wpList Try.prog ops Q rest (a.put op.dst (.agg (mk m))) w) : wpList Try.prog ops Q (op :: rest) a w :=
  wpList_load_mid hgd 39 x ho B 0 hx (ml m) _ (by have := blk_range (pre := []) (mid := ml m) (post := ml [q]) (by simpa [mk, ml_append] using h); exact this) Try.underlying39 rfl (by rw [info22, ml_len, hm]) hr
end
theorem ix22 {M : List Int} (hM : M.length = 26) {i : Nat} {x : Int} (h : M[i]? = some x) (w : World) : (Instr.index 39 (.agg (mk M)) (.int .i64 (i : Int))).run Try.prog w = .ok (.int .i64 x) w := by
  have hi : i < 26 := by rw [← hM]; exact (List.getElem?_eq_some_iff.1 h).1
  have he := mk_at h
  have h3 : Try.prog.underlying 3 = some (.int .i64) := Try.underlying3
  have hs : (sizeOf 3).run Try.prog w = .ok 1 w := by kernel_rfl
  simp [Instr.index, asIntOf, run_underlying Try.underlying39, part, isAgg, run_underlying h3, hs, he]
  omega

/-- marks against the same marks -/
theorem eqin22 (w : World) (d : Nat) (M : List Int) (hM : M.length = 26) : (Op.equalIn (d + 2) 39 (.agg (mk M)) (.agg (mk M))).run Try.prog w = .ok true w := by
  have h3 : Try.prog.underlying 3 = some (.int .i64) := Try.underlying3
  have hsz : ∀ w, (sizeOf 3).run Try.prog w = .ok 1 w := fun w => by kernel_rfl
  rw [Op.equalIn]
  simp only [Sem.run_bind, run_underlying Try.underlying39, Result.andThen_ok, hsz, Std.Legacy.Range.forIn_eq_forIn_range', Std.Legacy.Range.size, Nat.sub_zero, Nat.add_sub_cancel, Nat.div_one]
  have hl : ∀ i ∈ List.range' 0 26 1, i < 26 := fun i hi => by simpa using (List.mem_range'_1.1 hi).2
  generalize List.range' 0 26 1 = l at hl ⊢
  induction l with
  | nil => simp
  | cons i l ih =>
    have hi : i < 26 := hl i (by simp)
    obtain ⟨x, hx⟩ : ∃ x, M[i]? = some x := ⟨_, List.getElem?_eq_getElem (by omega)⟩
    have he := mk_at hx
    have px : (part 3 (mk M) (i * 1)).run Try.prog w = .ok (.int .i64 x) w := by
      simp [part, isAgg, run_underlying h3, he]
    have pe : (Op.equalIn (d + 1) 3 (.int .i64 x) (.int .i64 x)).run Try.prog w = .ok true w := by
      rw [run_equalIn_int w d 3 .i64 .i64 _ _ h3]
      simp
    simp only [List.forIn_cons, Sem.run_bind, px, pe, Result.andThen_ok]
    simp only [Bool.not_true, Bool.false_eq_true, if_false, Sem.run_pure, Result.andThen_ok]
    exact ih fun j hj => hl j (by simp [hj])
theorem parts24 {L : List Int} (hL : L.length = 27) : ∃ M q, L = M ++ [q] ∧ M.length = 26 := by
  refine ⟨L.take 26, L[26], ?_, by simp; omega⟩
  conv => lhs; rw [← List.take_append_drop 26 L]
  congr 1
  rw [List.drop_eq_getElem_cons (by omega), List.drop_eq_nil_of_le (by omega)]
theorem flds24 : (Try.prog.fieldsOf 41).toList = [⟨ "Names", 39, 0, false, "", "", 0⟩, ⟨ "Back", 3, 26, false, "", "", 208⟩] := by kernel_rfl
theorem undf24 : Try.prog.underlying 41 = some (.struct (Try.prog.fieldsOf 41)) := by kernel_rfl
theorem held24 : Try.prog.stoodInHeld 41 = false := by kernel_rfl
theorem size22 (w : World) : (sizeOf 39).run Try.prog w = .ok 26 w := by kernel_rfl
theorem ag22 (w : World) : (isAgg 39).run Try.prog w = .ok true w := by kernel_rfl
theorem ag3 (w : World) : (isAgg 3).run Try.prog w = .ok false w := by kernel_rfl
theorem part22 (w : World) (M : List Int) (q : Int) (hM : M.length = 26) : (part 39 (mk (M ++ [q])) 0).run Try.prog w = .ok (.agg (mk M)) w := by
  have e1 : (mk (M ++ [q])).extract 0 26 = mk M := by
    apply Array.ext'
    rw [Array.toList_extract]
    simp [mk, ml_append, List.extract_eq_take_drop, ml_len, hM]
  unfold part
  simp only [Sem.run_bind, ag22, size22, Result.andThen_ok, if_true, Sem.run_pure, Nat.zero_add, e1]
theorem part3 (w : World) (M : List Int) (q : Int) (hM : M.length = 26) : (part 3 (mk (M ++ [q])) 26).run Try.prog w = .ok (.int .i64 q) w := by
  have e2 : (mk (M ++ [q]))[26]? = some (.int .i64 q) := mk_at (by simp [hM])
  unfold part
  simp [e2]
theorem eqf_cons {P : Program} {d : Nat} {xs ys : Array Value} {f : Field} {fs : List Field} {w : World} {a b : Value} (hn : f.name ≠ "_") (pa : (part f.type xs f.offset).run P w = .ok a w) (pb : (part f.type ys f.offset).run P w = .ok b w) (he : (Op.equalIn d f.type a b).run P w = .ok true w) (hr : (Op.eqFields d xs ys fs).run P w = .ok true w) : (Op.eqFields d xs ys (f :: fs)).run P w = .ok true w := by
  unfold Op.eqFields
  rw [if_pos hn]
  simp only [Sem.run_bind, pa, pb, he, Result.andThen_ok, Bool.not_true, Bool.false_eq_true, if_false, hr]
theorem eqin3 (w : World) (d : Nat) (q : Int) : (Op.equalIn (d + 2) 3 (.int .i64 q) (.int .i64 q)).run Try.prog w = .ok true w := by
  rw [run_equalIn_int w (d + 1) 3 .i64 .i64 _ _ Try.underlying3]; simp
theorem eqflds (w : World) (d : Nat) (M : List Int) (q : Int) (hM : M.length = 26) : (Op.eqFields (d + 2) (mk (M ++ [q])) (mk (M ++ [q])) [⟨ "Names", 39, 0, false, "", "", 0⟩, ⟨ "Back", 3, 26, false, "", "", 208⟩]).run Try.prog w = .ok true w :=
  eqf_cons (a := .agg (mk M)) (b := .agg (mk M)) (by decide) (part22 w M q hM) (part22 w M q hM) (eqin22 w d M hM) (eqf_cons (a := .int .i64 q) (b := .int .i64 q) (by decide) (part3 w M q hM) (part3 w M q hM) (eqin3 w d q) rfl)
theorem eqin24 (w : World) (d : Nat) (L : List Int) (hL : L.length = 27) : (Op.equalIn (d + 3) 41 (.agg (mk L)) (.agg (mk L))).run Try.prog w = .ok true w := by
  obtain ⟨M, q, rfl, hM⟩ := parts24 hL
  rw [run_equalIn_struct w (d + 2) 41 _ _ undf24 held24, flds24]
  exact eqflds w d M q hM
theorem eq24 (w : World) (L : List Int) (hL : L.length = 27) : (binOp .eql 41 (.agg (mk L)) (.agg (mk L))).run Try.prog w = .ok (.bool true) w := by
  rw [run_eql_struct, eqin24 w 9997 L hL]; rfl
theorem ne24 (w : World) (L : List Int) (hL : L.length = 27) : (binOp .neq 41 (.agg (mk L)) (.agg (mk L))).run Try.prog w = .ok (.bool false) w := by
  rw [run_neq_struct, eqin24 w 9997 L hL]; rfl
end Go.Proofs.Ytaahklapoppgaaa

