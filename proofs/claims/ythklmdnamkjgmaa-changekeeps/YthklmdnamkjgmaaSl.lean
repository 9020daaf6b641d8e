/- append as a run; parts of a text as letters. -/
import Derived.Test.YthklmdnamkjgmaaCln
namespace Go.Proofs.Ythklmdnamkjgmaa
open Go.RowKit

set_option maxRecDepth 8000
theorem grown_setRow {W : World} {B : Nat} (cs : Array Value) : W.grownBy (W.setRow B cs) (some B) :=
  ⟨rfl, rfl, rfl, by simp [World.setRow], fun k _ hk => setRow_other W B k cs (fun e => hk (by rw [e]))⟩
theorem run_bg {w : World} (ty base : Nat)
    (v : Value) (n : Nat) (xs : List Value) (hown : w.ownsRow base 5 1 v n xs)
    (u : Value) (m : Nat) (news : List Value) (hsrc : Srv w u m news) (hl : news.length = m)
    (h1 : ∀ u ∈ news, u.oneCell' = true) (hb : n + m ≤ 150000000000000) (hm : m ≤ 140737488355328 ∨ v.ownBlock ≠ none) (hbase : base ≤ w.heap.size) :
    ∃ v' w', (Builtin.append_ #[22, 22] ty #[v, u]).run Try.prog w = .ok v' w' ∧ w'.ownsRow base 5 1 v' (n + m) (xs ++ news) ∧ w.grownBy w' v.ownBlock ∧ (v'.ownBlock = v.ownBlock ∨ ∃ q, v'.ownBlock = some q ∧ w.heap.size ≤ q) := by
  obtain ⟨i5, hi5, hz5, hs5, hb5⟩ := info_parts info5
  have hx0 := hown.1
  rcases hsrc with ⟨hu, h0, h2⟩ | ⟨ad, c, hu, hcell⟩
  · subst hu h0 h2
    exact ⟨v, w, run_append_owned_none (P := Try.prog) (w := w) base 22 ty 5 i5 1 Try.underlying22 hi5 v n xs hown, by simpa using hown, ⟨rfl, rfl, rfl, Nat.le_refl _, fun _ _ _ => rfl⟩, .inl rfl⟩
  · subst hu
    by_cases hsm : n + m ≤ 140737488355328
    · obtain ⟨v', w', hr, h2, h3, h4, h5⟩ := run_append_own_at (P := Try.prog) w base 22 ty 5 i5 (.int .u8 0) 1 1 Try.underlying22 hi5 hz5 hs5 hb5 rfl (by decide) v n xs hown ad m c news (by omega) hcell h1 (by unfold maxLen; omega) (by omega) hbase
      refine ⟨v', w', hr, h2, h3, ?_⟩
      rcases h5 with e | e
      · exact .inl e
      · exact .inr ⟨_, e, Nat.le_refl _⟩
    · rcases hown.2 with ⟨hv, hn0⟩ | ⟨g, cap, cur, hv, hbg, hg, hnc, hcm, hcs, htake⟩
      · rcases hm with hm | hm
        · omega
        · rw [hv] at hm; exact absurd rfl hm
      · subst hv
        have hge := grownCap_ge w (n + m) cap 5
        have hcm2 := grownCap_le_maxLen w (n + m) cap 5 (by unfold maxLen; omega)
        by_cases hroom : n + m ≤ cap
        · have hr := run_append_room (P := Try.prog) w 22 ty 5 i5 Try.underlying22 hi5 g n cap cur hg ad m c news (by rw [hs5]; omega) hcell h1 hroom (by rw [hs5]; omega)
          rw [hs5] at hr
          refine ⟨_, _, hr, ⟨by simp; omega, .inr ⟨g, cap, _, rfl, hbg, setRow_heap w g cur _ 5 _ hg, hroom, hcm, ?_, ?_⟩⟩, grown_setRow _, .inl rfl⟩
          · simp only [List.size_toArray, List.length_append, List.length_take, List.length_drop, Array.length_toList]
            omega
          · rw [htake]
            exact List.take_left' (by simp; omega)
        · have hcells : ∀ j t, xs[j]? = some t → w.cell? ((⟨g, 0, none⟩ : Addr).add j) = some t := hown.cells rfl
          have hq := next_quarter (show cap < n + m by omega)
          have hr := run_append_grow (P := Try.prog) w 22 ty 5 i5 (.int .u8 0) Try.underlying22 hi5 hz5 ⟨g, 0, none⟩ n cap xs (by rw [hs5]; omega) hcells ad m c news (by rw [hs5]; omega) hcell (by omega) (by omega) (by rw [hb5]; omega)
          refine ⟨_, _, hr, ⟨by simp; omega, .inr ⟨w.heap.size, _, _, rfl, hbase, heap_alloc_new w.drew _, hge, hcm2, ?_, ?_⟩⟩, ⟨rfl, rfl, rfl, by simp, fun k hk _ => heap_alloc_old w.drew _ hk⟩, .inr ⟨w.heap.size, rfl, Nat.le_refl _⟩⟩
          · simp only [Array.size_append, List.size_toArray, size_zeroCells, Value.cells, hl]
            simp; omega
          · simp only [Array.toList_append, List.append_assoc]
            rw [← List.append_assoc]
            exact List.take_left' (by simp; omega)
theorem step_bg {w : World} {cc : Bool} {o : Oper} {a : Act} {K : Act → World → Prop} {Q : Exit → Act → World → Prop} {E : Prop} (hcc : cc = true) (s x : Operand)
    (ho : o.op = .call { callee := .builtin .append, args := #[s, x], argTypes := #[22, 22] }) (base : Nat)
    (v : Value) (n : Nat) (xs : List Value) (hs : a.eval s = v) (hown : w.ownsRow base 5 1 v n xs)
    (u : Value) (m : Nat) (news : List Value) (hx : a.eval x = u) (hsrc : Srv w u m news) (hl : news.length = m)
    (h1 : ∀ u ∈ news, u.oneCell' = true) (hb : n + m ≤ 150000000000000) (hm : m ≤ 140737488355328 ∨ v.ownBlock ≠ none) (hbase : base ≤ w.heap.size)
    (h : ∀ v' w', w'.ownsRow base 5 1 v' (n + m) (xs ++ news) → w.grownBy w' v.ownBlock → (v'.ownBlock = v.ownBlock ∨ ∃ q, v'.ownBlock = some q ∧ w.heap.size ≤ q) → K (a.put o.dst v') w') :
    if cc = true then Oper.wp Try.prog o a w K Q else E := by
  rw [if_pos hcc]
  obtain ⟨v', w', hr, h2, h3, h4⟩ := run_bg o.type base v n xs hown u m news hsrc hl h1 hb hm hbase
  unfold Oper.wp execOp
  simp only [ho, resolve, invoke, builtin, Sem.run_bind, Sem.run_pure, Result.andThen_ok, List.map_toArray, List.map_cons, List.map_nil, hs, hx, hr]
  exact h v' w' h2 h3 h4
theorem at8_drop (l : List UInt8) (s j : Nat) : at8 (l.drop s) j = at8 l (s + j) := by simp [at8, List.getD]
theorem add_add (a : Addr) (l j : Nat) (hl : 0 < l) : (a.add l).add j = a.add (l + j) := by
  unfold Addr.add
  by_cases hj : j = 0
  · subst hj; simp
  · rw [if_neg hj, if_neg (by omega), if_neg (by omega)]; simp; omega
theorem Tx.tail0 {w : World} {a : Addr} {n c s : Nat} {l : List UInt8} (h : Tx w (some a) n c l) (hs : s ≤ n) (hc : c = s) : Tx w (some a) (n - s) 0 (l.drop s) :=
  ⟨by rw [List.length_drop, h.len], by have := h.cap; omega, by have := h.big; omega, fun _ => rfl, fun _ _ j hj => by have := h.cap; omega⟩
theorem Tx.tail {w : World} {a : Addr} {n c s : Nat} {l : List UInt8} (h : Tx w (some a) n c l) (hs : s ≤ n) : Tx w (some (a.add s)) (n - s) (c - s) (l.drop s) := by
  refine ⟨by rw [List.length_drop, h.len], by have := h.cap; omega, by have := h.big; omega, fun h => by simp at h, fun a' ha j hj => ?_⟩
  have e : a.add s = a' := by simpa using ha
  subst e
  rw [at8_drop]
  rcases Nat.eq_zero_or_pos s with h0 | h0
  · subst h0
    have := h.cells a rfl j (by omega)
    simpa [Addr.add] using this
  · rw [add_add a s j h0]
    exact h.cells a rfl (s + j) (by omega)
theorem Tx.head {w : World} {ao : Option Addr} {n c i : Nat} {l : List UInt8} (h : Tx w ao n c l) (hi : i ≤ n) : Tx w ao i c (l.take i) := by
  refine ⟨by rw [List.length_take, h.len]; omega, by have := h.cap; omega, by have := h.big; omega, h.nil, fun a ha j hj => ?_⟩
  rw [h.cells a ha j (by omega)]
  have : at8 (l.take i) j = at8 l j := by simp [at8, List.getD, hj]
  rw [this]

theorem size5 (w : World) : (sizeOf 5).run Try.prog w = .ok 1 w := by kernel_rfl
theorem elem22 : Try.prog.elem 22 = 5 := by kernel_rfl
theorem und22 : Try.prog.underlying 22 = some (.slice (Try.prog.elem 22)) := by kernel_rfl
/-- u[lo:lo + m] -/
theorem sl_lh {w : World} {ua : Option Addr} {n c lo m : Nat} {u : List UInt8} (h : Tx w ua n c u) (hm : lo + m ≤ n) : ∃ a' c', (∀ W, (Instr.sliceAt 22 (.slice ua n c) (some (.int .i64 (lo : Int))) (some (.int .i64 ((lo : Int) + (m : Int)))) none).run Try.prog W = .ok (.slice a' m c') W) ∧ Tx w a' m c' ((u.drop lo).take m) := by
  have hc := h.cap
  have hr : ∀ W, (Instr.sliceAt 22 (.slice ua n c) (some (.int .i64 (lo : Int))) (some (.int .i64 ((lo : Int) + (m : Int)))) none).run Try.prog W = .ok (sliced ua lo (lo + m) c 1) W := fun W => by
    rw [run_sliceAt_slice W 22 _ _ _ _ und22, run_slice_lh W 22 ua n c und22 .i64 .i64 (lo : Int) ((lo : Int) + (m : Int)) (by omega) (by omega) (by omega), elem22, size5]
    show Result.ok (sliced ua (lo : Int).toNat ((lo : Int) + (m : Int)).toNat c 1) W = _
    rw [show (lo : Int).toNat = lo by omega, show ((lo : Int) + (m : Int)).toNat = lo + m by omega]
  cases ua with
  | none =>
    obtain ⟨rfl, rfl, rfl⟩ := h.none
    refine ⟨none, 0 - lo, fun W => ?_, ?_⟩
    · rw [hr W]; unfold sliced; rw [show lo + m - lo = m by omega]; split <;> rfl
    · obtain rfl : m = 0 := by omega
      obtain rfl : lo = 0 := by omega
      exact tx_nil w
  | some a =>
    by_cases hcl : c = lo
    · refine ⟨some a, 0, fun W => ?_, ?_⟩
      · rw [hr W]; unfold sliced; rw [if_pos hcl, show lo + m - lo = m by omega, show c - lo = 0 by omega]
      · have := (h.tail0 (s := lo) (by omega) hcl).head (i := m) (by omega)
        exact this
    · refine ⟨some (a.add lo), c - lo, fun W => ?_, ?_⟩
      · rw [hr W]; unfold sliced; rw [if_neg hcl, show lo + m - lo = m by omega, Nat.mul_one]; rfl
      · exact (h.tail (s := lo) (by omega)).head (i := m) (by omega)
/-- u[:m] -/
theorem sl_h {w : World} {ua : Option Addr} {n c m : Nat} {u : List UInt8} (h : Tx w ua n c u) (hm : m ≤ n) : ∃ a' c', (∀ W, (Instr.sliceAt 22 (.slice ua n c) none (some (.int .i64 (m : Int))) none).run Try.prog W = .ok (.slice a' m c') W) ∧ Tx w a' m c' (u.take m) := by
  have hc := h.cap
  have hr : ∀ W, (Instr.sliceAt 22 (.slice ua n c) none (some (.int .i64 (m : Int))) none).run Try.prog W = .ok (sliced ua 0 m c 1) W := fun W => by
    rw [run_sliceAt_slice W 22 _ _ _ _ und22, run_slice_h W 22 ua n c und22 .i64 (m : Int) (by omega) (by omega), elem22, size5]
    rfl
  refine ⟨ua, c, fun W => ?_, h.head hm⟩
  rw [hr W]
  unfold sliced
  cases ua with
  | none => simp
  | some a => simp [Addr.add]
/-- u[lo:] -/
theorem sl_l {w : World} {ua : Option Addr} {n c lo : Nat} {u : List UInt8} {z : Int} (h : Tx w ua n c u) (hm : lo ≤ n) (hz : z = (lo : Int)) : ∃ a' c', (∀ W, (Instr.sliceAt 22 (.slice ua n c) (some (.int .i64 z)) none none).run Try.prog W = .ok (.slice a' (n - lo) c') W) ∧ Tx w a' (n - lo) c' (u.drop lo) := by
  subst hz
  have hc := h.cap
  have hr : ∀ W, (Instr.sliceAt 22 (.slice ua n c) (some (.int .i64 (lo : Int))) none none).run Try.prog W = .ok (sliced ua lo n c 1) W := fun W => by
    rw [run_sliceAt_slice W 22 _ _ _ _ und22, run_slice_l W 22 ua n c und22 .i64 (lo : Int) (by omega) (by omega), elem22, size5]
    rfl
  cases ua with
  | none =>
    obtain ⟨rfl, rfl, rfl⟩ := h.none
    refine ⟨none, 0 - lo, fun W => ?_, ?_⟩
    · rw [hr W]; unfold sliced; split <;> rfl
    · obtain rfl : lo = 0 := by omega
      exact tx_nil w
  | some a =>
    by_cases hcl : c = lo
    · refine ⟨some a, 0, fun W => ?_, h.tail0 hm hcl⟩
      rw [hr W]; unfold sliced; rw [if_pos hcl, show c - lo = 0 by omega]
    · refine ⟨some (a.add lo), c - lo, fun W => ?_, h.tail hm⟩
      rw [hr W]; unfold sliced; rw [if_neg hcl, Nat.mul_one]; rfl
theorem ne9_no (x : List UInt8) (W : World) : (binOp .neq 9 (.string ⟨x.toArray⟩) (.string ⟨x.toArray⟩)).run Try.prog W = .ok (.bool false) W := by
  simp [binOp, Op.stringOp]
theorem ne9_yes (x y : List UInt8) (h : x ≠ y) (W : World) : (binOp .neq 9 (.string ⟨x.toArray⟩) (.string ⟨y.toArray⟩)).run Try.prog W = .ok (.bool true) W := by
  simp [binOp, Op.stringOp, h]
end Go.Proofs.Ythklmdnamkjgmaa
