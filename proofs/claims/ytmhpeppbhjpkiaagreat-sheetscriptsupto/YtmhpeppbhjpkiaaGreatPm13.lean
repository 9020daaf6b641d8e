/- A region that draws its order, whose last operations store where its loads read: a condition on the world that holds up to the first such store. -/
import Derived.OrdersHeld
import Derived.RegionTactic
import Derived.Test.YtmhpeppbhjpkiaaGreatPm10
import Derived.Test.YtmhpeppbhjpkiaaGreatPm12
namespace Go.Proofs.YtmhpeppbhjpkiaaGreat
open Go Go.RowKit

section
variable {P : Program} {ops : Array Oper} {Q : Exit → Act → World → Prop} {md : Region.Mode}

/-- Whatever has come up, what it waits for has. -/
def Shut (md : Region.Mode) (ops : Array Oper) (listed : Array Bool) : Prop :=
  ∀ j oj, ops[j]? = some oj → listed.getD j false = true → ∀ e ∈ oj.after, Region.binds md e = true → listed.getD e.on false = true

/-- Every order from here on; S holds behind each operation ahead of number n0. -/
def wpLate (P : Program) (md : Region.Mode) (ops : Array Oper) (Q : Exit → Act → World → Prop) (S : World → Prop) (n0 : Nat) : Nat → Array Bool → Act → World → Prop
  | 0, listed, a, w => Region.ready md ops listed = [] ∧ Q .normal a w
  | fuel + 1, listed, a, w =>
    (Region.ready md ops listed = [] → Q .normal a w) ∧
    ∀ i ∈ Region.ready md ops listed, wpOp P ops Q i (fun a' w' => (i ≠ n0 → listed.getD n0 false = false → S w') ∧ wpLate P md ops Q S n0 fuel (listed.setIfInBounds i true) a' w') a w

theorem wpAny_of_late {S : World → Prop} {n0 : Nat} : ∀ (fuel : Nat) (listed : Array Bool) (a : Act) (w : World), wpLate P md ops Q S n0 fuel listed a w → wpAny P md ops Q fuel listed a w
  | 0, _, _, _, h => h
  | fuel + 1, _, _, _, h => ⟨h.1, fun i hi => wpOp_mono (fun a' w' h' => wpAny_of_late fuel _ a' w' h'.2) (h.2 i hi)⟩

theorem Shut.set {listed : Array Bool} {i : Nat} (h : Shut md ops listed) (hr : i ∈ Region.ready md ops listed) : Shut md ops (listed.setIfInBounds i true) := by
  intro j oj hj hl e he hb
  by_cases hij : i = j
  · subst hij
    obtain ⟨_, o, ho, hall⟩ := mem_ready.1 hr
    rw [hj] at ho
    cases ho
    exact getD_set_true (hall e he hb)
  · rw [getD_set_ne false hij] at hl
    exact getD_set_true (h j oj hj hl e he hb)

theorem not_listed {listed : Array Bool} {i : Nat} (h : listed.getD i true = false) : listed.getD i false = false := by
  rcases Nat.lt_or_ge i listed.size with h' | h'
  · simpa [h'] using h
  · simp [Array.getElem?_eq_none h'] at h

theorem wpLate_first {S : World → Prop} {n0 i : Nat} {oi : Oper} {v : Value} (hi : ops[i]? = some oi) (hsel : ∀ (j : Nat) (o : Oper) cs b, ops[j]? = some o → o.op ≠ .select cs b)
    (hQ : ∀ c a w, Q (.panic c) (a.put oi.dst v) w → Q (.panic c) a w)
    (hdep : ∀ listed, Shut md ops listed → n0 ∈ Region.ready md ops listed → listed.getD i false = true) :
    ∀ (fuel : Nat) (listed : Array Bool) (a : Act) (w : World),
      (∀ j oj, ops[j]? = some oj → j ≠ i → listed.getD j true = false → (∀ e ∈ oj.after, Region.binds md e = true → e.on ≠ i) → oi.apart ops oj = true) →
      i ∈ Region.ready md ops listed → Shut md ops listed → listed.getD n0 false = false → YieldsIf P ops S oi v a → S w →
      wpLate P md ops Q S n0 fuel (listed.setIfInBounds i true) (a.put oi.dst v) w → wpLate P md ops Q S n0 (fuel + 1) listed a w := by
  intro fuel
  induction fuel with
  | zero =>
    intro listed a w _ hr _ _ hy hS H
    refine ⟨fun h => (by rw [h] at hr; cases hr), fun j hj => ?_⟩
    by_cases hji : j = i
    · subst hji; exact hy.wpOp hi hS ⟨fun _ _ => hS, H⟩
    · have := ready_mono hj hji
      rw [H.1] at this
      cases this
  | succ fuel ih =>
    intro listed a w hfree hr hsh hl0 hy hS H
    refine ⟨fun h => (by rw [h] at hr; cases hr), fun j hj => ?_⟩
    by_cases hji : j = i
    · subst hji; exact hy.wpOp hi hS ⟨fun _ _ => hS, H⟩
    · have h1 := H.2 j (ready_mono hj hji)
      obtain ⟨hjun, oj, hoj, hall⟩ := mem_ready.1 hj
      have hin := not_listed (mem_ready.1 hr).1
      have hnot : ∀ e ∈ oj.after, Region.binds md e = true → e.on ≠ i := fun e he hb heq => by
        have h1 := hall e he hb
        rw [heq, hin] at h1
        cases h1
      have hjn : j ≠ n0 := fun e => by
        subst e
        have := hdep listed hsh hj
        rw [hin] at this
        cases this
      have hinn : i ≠ n0 := fun e => by
        subst e
        have := hdep listed hsh hr
        rw [hin] at this
        cases this
      have h2 := wpOp_putIf hoj (hfree j oj hoj hji hjun hnot) (fun cs b => hsel i oi cs b hi) (fun cs b => hsel j oj cs b hoj) hQ hy h1
      have hfree' : ∀ k ok, ops[k]? = some ok → k ≠ i → (listed.setIfInBounds j true).getD k true = false →
          (∀ e ∈ ok.after, Region.binds md e = true → e.on ≠ i) → oi.apart ops ok = true := fun k ok hk hki hun hno => by
        refine hfree k ok hk hki ?_ hno
        by_cases hjk : j = k
        · subst hjk; exact hjun
        · rw [getD_set_ne true hjk] at hun; exact hun
      refine wpOp_mono (fun a' w' h3 => ?_) h2
      have hS' : S w' := h3.2.1 hjn (by rw [getD_set_ne false hinn]; exact hl0)
      refine ⟨fun _ _ => hS', ih (listed.setIfInBounds j true) a' w' hfree' (ready_mono hr (Ne.symm hji)) (hsh.set hj) (by rw [getD_set_ne false hjn]; exact hl0) h3.1 hS' ?_⟩
      rw [Array.setIfInBounds_comm _ _ hji]
      exact h3.2.2

/-- Number n0 waits for i, or for what waits for i. -/
def waitsFor (md : Region.Mode) (ops : Array Oper) (n0 i : Nat) : Bool :=
  match ops[n0]? with
  | none => false
  | some o => o.after.any fun e => Region.binds md e && (e.on == i || match ops[e.on]? with
    | none => false
    | some o2 => o2.after.any fun e2 => Region.binds md e2 && e2.on == i)

theorem waits_dep {n0 i : Nat} (h : waitsFor md ops n0 i = true) : ∀ listed, Shut md ops listed → n0 ∈ Region.ready md ops listed → listed.getD i false = true := by
  intro listed hsh hr
  obtain ⟨_, o, ho, hall⟩ := mem_ready.1 hr
  simp only [waitsFor, ho, Array.any_eq_true] at h
  obtain ⟨k, hk, he⟩ := h
  simp only [Bool.and_eq_true, Bool.or_eq_true, beq_iff_eq] at he
  obtain ⟨hb, he⟩ := he
  have h1 := hall _ (Array.getElem_mem hk) hb
  rcases he with he | he
  · rw [he] at h1; exact h1
  · cases ho2 : ops[o.after[k].on]? with
    | none => simp [ho2] at he
    | some o2 =>
      simp only [ho2, Array.any_eq_true] at he
      obtain ⟨k2, hk2, he2⟩ := he
      simp only [Bool.and_eq_true, beq_iff_eq] at he2
      have := hsh _ _ ho2 h1 _ (Array.getElem_mem hk2) he2.1
      rw [he2.2] at this
      exact this

/-- Take number i first. -/
theorem wpLate_take {S : World → Prop} {n0 i : Nat} {oi : Oper} {v : Value} {fuel : Nat} {listed : Array Bool} {a : Act} {w : World} (hi : ops[i]? = some oi)
    (hs : Region.noSelect ops = true) (hf : Region.free md ops listed i = true) (hr : (Region.ready md ops listed).contains i = true) (hw : waitsFor md ops n0 i = true)
    (hsh : Shut md ops listed) (hl0 : listed.getD n0 false = false) (hQ : ∀ c a w, Q (.panic c) (a.put oi.dst v) w → Q (.panic c) a w) (hy : YieldsIf P ops S oi v a) (hS : S w)
    (h : Shut md ops (listed.setIfInBounds i true) → wpLate P md ops Q S n0 fuel (listed.setIfInBounds i true) (a.put oi.dst v) w) : wpLate P md ops Q S n0 (fuel + 1) listed a w :=
  wpLate_first hi (Region.noSelect_spec hs) hQ (waits_dep hw) fuel listed a w (Region.free_spec hi hf) (by simpa using hr) hsh hl0 hy hS (h (hsh.set (by simpa using hr)))

theorem shut_start (n : Nat) : Shut md ops (Array.replicate n false) := by
  intro j oj _ hl
  rcases Nat.lt_or_ge j n with h | h
  · simp [h] at hl
  · simp [Array.getElem?_eq_none (show (Array.replicate n false).size ≤ j by simpa using h)] at hl

theorem wp_region_late {S : World → Prop} {n0 id : Nat} {a : Act} {w : World} (hm : P.follows .mixedOrders = true)
    (h : Shut .any ops (Array.replicate ops.size false) → wpLate P .any ops Q S n0 ops.size (Array.replicate ops.size false) a { w with drawn := w.drawn + 1 }) : (Code.region id ops true).wp P Q a w :=
  wp_region_any hm (wpAny_of_late _ _ _ _ (h (shut_start _)))

/-- One alone may come up. -/
theorem wpLate_one {S : World → Prop} {n0 i : Nat} {fuel : Nat} {listed : Array Bool} {a : Act} {w : World} (hr : Region.ready md ops listed = [i])
    (h : wpOp P ops Q i (fun a' w' => (i ≠ n0 → listed.getD n0 false = false → S w') ∧ wpLate P md ops Q S n0 fuel (listed.setIfInBounds i true) a' w') a w) : wpLate P md ops Q S n0 (fuel + 1) listed a w :=
  ⟨fun h0 => (by rw [hr] at h0; cases h0), by rw [hr]; intro j hj; obtain rfl : j = i := (by simpa using hj); exact h⟩

theorem wpLate_free {S : World → Prop} {n0 i : Nat} {oi : Oper} {v : Value} (hi : ops[i]? = some oi) (hsel : ∀ (j : Nat) (o : Oper) cs b, ops[j]? = some o → o.op ≠ .select cs b) (hin0 : i ≠ n0)
    (hQ : ∀ c a w, Q (.panic c) (a.put oi.dst v) w → Q (.panic c) a w) :
    ∀ (fuel : Nat) (listed : Array Bool) (a : Act) (w : World),
      (∀ j oj, ops[j]? = some oj → j ≠ i → listed.getD j true = false → (∀ e ∈ oj.after, Region.binds md e = true → e.on ≠ i) → oi.apart ops oj = true) →
      i ∈ Region.ready md ops listed → YieldsIf P ops (fun _ => True) oi v a → (listed.getD n0 false = false → S w) →
      wpLate P md ops Q S n0 fuel (listed.setIfInBounds i true) (a.put oi.dst v) w → wpLate P md ops Q S n0 (fuel + 1) listed a w := by
  intro fuel
  induction fuel with
  | zero =>
    intro listed a w _ hr hy hS H
    refine ⟨fun h => (by rw [h] at hr; cases hr), fun j hj => ?_⟩
    by_cases hji : j = i
    · subst hji; exact hy.wpOp hi trivial ⟨fun _ h0 => hS h0, H⟩
    · have := ready_mono hj hji
      rw [H.1] at this
      cases this
  | succ fuel ih =>
    intro listed a w hfree hr hy hS H
    refine ⟨fun h => (by rw [h] at hr; cases hr), fun j hj => ?_⟩
    by_cases hji : j = i
    · subst hji; exact hy.wpOp hi trivial ⟨fun _ h0 => hS h0, H⟩
    · have h1 := H.2 j (ready_mono hj hji)
      obtain ⟨hjun, oj, hoj, hall⟩ := mem_ready.1 hj
      have hin := not_listed (mem_ready.1 hr).1
      have hnot : ∀ e ∈ oj.after, Region.binds md e = true → e.on ≠ i := fun e he hb heq => by
        have h1 := hall e he hb
        rw [heq, hin] at h1
        cases h1
      have h2 := wpOp_putIf hoj (hfree j oj hoj hji hjun hnot) (fun cs b => hsel i oi cs b hi) (fun cs b => hsel j oj cs b hoj) hQ hy h1
      have hfree' : ∀ k ok, ops[k]? = some ok → k ≠ i → (listed.setIfInBounds j true).getD k true = false →
          (∀ e ∈ ok.after, Region.binds md e = true → e.on ≠ i) → oi.apart ops ok = true := fun k ok hk hki hun hno => by
        refine hfree k ok hk hki ?_ hno
        by_cases hjk : j = k
        · subst hjk; exact hjun
        · rw [getD_set_ne true hjk] at hun; exact hun
      refine wpOp_mono (fun a' w' h3 => ?_) h2
      refine ⟨fun hj0 hl0 => h3.2.1 hj0 (by rw [getD_set_ne false hin0]; exact hl0), ih (listed.setIfInBounds j true) a' w' hfree' (ready_mono hr (Ne.symm hji)) h3.1 (fun hl0 => ?_) ?_⟩
      · by_cases hj0 : j = n0
        · subst hj0
          exfalso
          have hjlt : j < listed.size := by
            rcases Nat.lt_or_ge j listed.size with h' | h'
            · exact h'
            · simp [Array.getElem?_eq_none h'] at hjun
          simp [hjlt] at hl0
        · rw [getD_set_ne false hj0] at hl0
          exact h3.2.1 hj0 (by rw [getD_set_ne false hin0]; exact hl0)
      · rw [Array.setIfInBounds_comm _ _ hji]
        exact h3.2.2

/-- Take number i first: it yields its value in whatever world. -/
theorem wpLate_any {S : World → Prop} {n0 i : Nat} {oi : Oper} {v : Value} {fuel : Nat} {listed : Array Bool} {a : Act} {w : World} (hi : ops[i]? = some oi)
    (hs : Region.noSelect ops = true) (hf : Region.free md ops listed i = true) (hr : (Region.ready md ops listed).contains i = true) (hin0 : i ≠ n0)
    (hQ : ∀ c a w, Q (.panic c) (a.put oi.dst v) w → Q (.panic c) a w) (hy : YieldsIf P ops (fun _ => True) oi v a) (hS : listed.getD n0 false = false → S w)
    (h : wpLate P md ops Q S n0 fuel (listed.setIfInBounds i true) (a.put oi.dst v) w) : wpLate P md ops Q S n0 (fuel + 1) listed a w :=
  wpLate_free hi (Region.noSelect_spec hs) hin0 hQ fuel listed a w (Region.free_spec hi hf) (by simpa using hr) hy hS h

/-- Two may come up. -/
theorem wpLate_two {S : World → Prop} {n0 i j : Nat} {oi oj : Oper} {fuel : Nat} {listed : Array Bool} {a : Act} {w : World} (hr : Region.ready md ops listed = [i, j]) (hi : ops[i]? = some oi) (hj : ops[j]? = some oj) (hwi : Region.wanted oi (yielded ops a.tmps) = true) (hwj : Region.wanted oj (yielded ops a.tmps) = true)
    (h1 : ∀ K : Act → World → Prop, (∀ a' w', (i ≠ n0 → listed.getD n0 false = false → S w') → wpLate P md ops Q S n0 fuel (listed.setIfInBounds i true) a' w' → K a' w') → Oper.wp P oi a w K Q)
    (h2 : ∀ K : Act → World → Prop, (∀ a' w', (j ≠ n0 → listed.getD n0 false = false → S w') → wpLate P md ops Q S n0 fuel (listed.setIfInBounds j true) a' w' → K a' w') → Oper.wp P oj a w K Q) : wpLate P md ops Q S n0 (fuel + 1) listed a w := by
  refine ⟨fun h0 => (by rw [hr] at h0; cases h0), ?_⟩
  rw [hr]
  intro k hk
  have run : ∀ {i : Nat} {o : Oper} {K : Act → World → Prop}, ops[i]? = some o → Region.wanted o (yielded ops a.tmps) = true → Oper.wp P o a w K Q → wpOp P ops Q i K a w := fun hi hw h => by
    unfold wpOp
    simp only [hi, hw, if_true]
    exact .inl h
  rcases List.mem_cons.1 hk with rfl | hk
  · exact run hi hwi (h1 _ fun _ _ a b => ⟨a, b⟩)
  · obtain rfl : k = j := (by simpa using hk)
    exact run hj hwj (h2 _ fun _ _ a b => ⟨a, b⟩)

theorem wpOp_run {i : Nat} {o : Oper} {a : Act} {w : World} {K : Act → World → Prop} (hi : ops[i]? = some o) (hw : Region.wanted o (yielded ops a.tmps) = true) (h : Oper.wp P o a w K Q) : wpOp P ops Q i K a w := by
  unfold wpOp
  simp only [hi, hw, if_true]
  exact .inl h

theorem wpLate_step {S : World → Prop} {n0 i : Nat} {o : Oper} {fuel : Nat} {listed : Array Bool} {a : Act} {w : World} (hr : Region.ready md ops listed = [i]) (hi : ops[i]? = some o) (hw : Region.wanted o (yielded ops a.tmps) = true)
    (h : ∀ K : Act → World → Prop, (∀ a' w', (i ≠ n0 → listed.getD n0 false = false → S w') → wpLate P md ops Q S n0 fuel (listed.setIfInBounds i true) a' w' → K a' w') → Oper.wp P o a w K Q) : wpLate P md ops Q S n0 (fuel + 1) listed a w :=
  wpLate_one hr (wpOp_run hi hw (h _ fun _ _ h1 h2 => ⟨h1, h2⟩))

theorem wpLate_done {S : World → Prop} {n0 : Nat} {listed : Array Bool} {a : Act} {w : World} (hr : Region.ready md ops listed = []) (h : Q .normal a w) : wpLate P md ops Q S n0 0 listed a w := ⟨hr, h⟩

end
end Go.Proofs.YtmhpeppbhjpkiaaGreat

/- A sheet's cut: a tree in two at a byte. -/
namespace Go.Proofs.YtmhpeppbhjpkiaaGreat
open Go.RowKit

/-- Three variables of trees, behind w. -/
structure Cw (w W : World) (a x y : Option Addr) : Prop where
  below : Below w.heap.size w W
  b0 : W.heap[w.heap.size]? = some (.cells #[.pointer a] 53 (0, 0))
  b1 : W.heap[w.heap.size + 1]? = some (.cells #[.pointer x] 53 (0, 0))
  b2 : W.heap[w.heap.size + 1 + 1]? = some (.cells #[.pointer y] 53 (0, 0))

theorem Cw.new (w : World) (a x y : Option Addr) : Cw w (((w.alloc (.cells #[.pointer a] 53)).alloc (.cells #[.pointer x] 53)).alloc (.cells #[.pointer y] 53)) a x y :=
  ⟨bAAA w _ _ _, ((Below.heap_alloc _ _ _ (by simp; omega)).trans (Below.heap_alloc _ _ _ (by simp))).trans (World.alloc_heap_new w _), (Below.heap_alloc _ _ _ (by simp)).trans (alloc2_here w _ _), alloc3_here w _ _ _⟩
theorem Cw.call {w W W' : World} {a x y : Option Addr} (h : Cw w W a x y) (hb : Below W.heap.size W W') : Cw w W' a x y :=
  ⟨h.below.trans (hb.mono h.below.size), (hb.block _ (sh_lt h.b0)).trans h.b0, (hb.block _ (sh_lt h.b1)).trans h.b1, (hb.block _ (sh_lt h.b2)).trans h.b2⟩
theorem Cw.drew {w W : World} {a x y : Option Addr} (h : Cw w W a x y) : Cw w W.drew a x y := ⟨h.below.drew, h.b0, h.b1, h.b2⟩
theorem Cw.set1 {w W : World} {a x y : Option Addr} (h : Cw w W a x y) (x' : Option Addr) : Cw w (W.setCell ⟨w.heap.size + 1, 0, none⟩ (.pointer x')) a x' y :=
  ⟨bset h.below (by omega) _ _, (Below.heap_setCell _ _ _ _ (by simp)).trans h.b0, box_set h.b1 _, (Below.heap_setCell _ _ _ _ (by simp)).trans h.b2⟩
theorem Cw.set2 {w W : World} {a x y : Option Addr} (h : Cw w W a x y) (y' : Option Addr) : Cw w (W.setCell ⟨w.heap.size + 1 + 1, 0, none⟩ (.pointer y')) a x y' :=
  ⟨bset h.below (by omega) _ _, (Below.heap_setCell _ _ _ _ (by simp; omega)).trans h.b0, (Below.heap_setCell _ _ _ _ (by simp)).trans h.b1, box_set h.b2 _⟩
theorem Cw.cells {w W : World} {a x y : Option Addr} (h : Cw w W a x y) :
    W.cell? ⟨w.heap.size, 0, none⟩ = some (.pointer a) ∧ W.cell? ⟨w.heap.size + 1, 0, none⟩ = some (.pointer x) ∧ W.cell? ⟨w.heap.size + 1 + 1, 0, none⟩ = some (.pointer y) ∧ W.frozen? ⟨w.heap.size + 1, 0, none⟩ = false ∧ W.frozen? ⟨w.heap.size + 1 + 1, 0, none⟩ = false :=
  ⟨(box_cell h.b0).1, (box_cell h.b1).1, (box_cell h.b2).1, (box_cell h.b1).2, (box_cell h.b2).2⟩
/-- Nodes lie on: a tree set beside them. -/
theorem Cw.nods1 {w W : World} {a x y : Option Addr} (h : Cw w W a x y) (v : Value) : Nods W (W.setCell ⟨w.heap.size + 1, 0, none⟩ v) := fun b cs hb => by
  by_cases e : b = w.heap.size + 1
  · subst e; rw [h.b1] at hb; cases hb
  · exact (Below.heap_setCell _ _ _ _ e).trans hb
theorem Cw.nods2 {w W : World} {a x y : Option Addr} (h : Cw w W a x y) (v : Value) : Nods W (W.setCell ⟨w.heap.size + 1 + 1, 0, none⟩ v) := fun b cs hb => by
  by_cases e : b = w.heap.size + 1 + 1
  · subst e; rw [h.b2] at hb; cases hb
  · exact (Below.heap_setCell _ _ _ _ e).trans hb

/-- What a cut gives. -/
def CutGave (w : World) (T U : Tr) (e : Ending) (w' : World) : Prop := ∃ x y, e = .returned (.tuple #[.agg #[.pointer x], .agg #[.pointer y]]) ∧ At w' T x ∧ At w' U y ∧ Below w.heap.size w w'

theorem nil_whole : (Tr.mk none).whole := by simp [Tr.whole, Tr.bal, Tr.red]

/-- How a tree is cut at a byte. -/
def CutR (O A : List UInt8) (t : Tr) (off : Int) (T U : Tr) : Prop :=
  (off = 0 ∧ T = Tr.mk none ∧ U = t) ∨ (off ≠ 0 ∧ off = t.byt ∧ T = t ∧ U = Tr.mk none) ∨
  ∃ (j : Nat) (x : Int) (p : Pc), 0 < off ∧ off < t.byt ∧ t.list[j]? = some p ∧ 0 ≤ x ∧ x < p.l ∧ off = sB (t.list.take j) + x ∧
    ((x = 0 ∧ T = (Tr.splitT t j).1 ∧ U = (Tr.splitT t j).2) ∨
     (0 < x ∧ T = Tr.joinT (Tr.splitT t j).1 (fstP O A p x) (Tr.mk none) ∧ U = Tr.joinT (Tr.mk none) (sndP O A p x) (Tr.splitT t (j + 1)).2))

set_option maxHeartbeats 1000000 in
theorem cut_zero (p : Value) (t : Tr) (a : Option Addr) (w : World) (h : Hid (At w t a)) : Calls Tryz.prog 74 #[p, .agg #[.pointer a], .int .i64 0] w (CutGave w (Tr.mk none) t) := by
  go_enter Tryz.func74, Tryz.ntmps74
  go_wp2
  go_region
  all_goals go_wp2
  exact bodyPost_ret (v := .tuple #[.agg #[.pointer none], .agg #[.pointer a]]) (by simp [results, Tryz.results74, go_sem]) rfl ⟨none, a, rfl, rfl, h.out.keep (bAAA w _ _ _).drew, (bAAA w _ _ _).drew⟩

set_option maxHeartbeats 1000000 in
theorem cut_all (p : Value) (t : Tr) (a : Option Addr) (w : World) (h : Hid (At w t a)) (hn : (t.byt == 0) = false) : Calls Tryz.prog 74 #[p, .agg #[.pointer a], .int .i64 t.byt] w (CutGave w t (Tr.mk none)) := by
  have hC := Cw.new w a none none
  obtain ⟨W0, hW0⟩ : ∃ W0, ((w.alloc (.cells #[.pointer a] 53)).alloc (.cells #[.pointer none] 53)).alloc (.cells #[.pointer none] 53) = W0 := ⟨_, rfl⟩
  rw [hW0] at hC
  obtain ⟨c0, c1, c2, f1, f2⟩ := hC.cells
  have HC := hid hC
  clear hC
  go_enter Tryz.func74, Tryz.ntmps74
  go_wp2_with (go_at_call 73; refine (Bytes_any t a _ (h.out.keep HC.out.below)).mono ?_; rintro e w9 ⟨rfl, hw9⟩; have C9 := hid (HC.out.call (bAlloc (Below.refl _ _) (.cells #[.pointer a] 53))); rw [← hw9] at C9; clear c0 c1 c2 f1 f2 hw9 hW0; obtain ⟨c0, c1, c2, f1, f2⟩ := C9.out.cells)
  have F := (C9.out.set1 a).set2 none
  have N := (C9.out.nods1 (.pointer a)).trans ((C9.out.set1 a).nods2 (.pointer none))
  exact bodyPost_ret (v := .tuple #[.agg #[.pointer a], .agg #[.pointer none]]) (by simp [results, Tryz.results74, go_sem, c1, c2]) rfl ⟨a, none, rfl, N.at (h.out.keep C9.out.below), rfl, F.below⟩

set_option maxHeartbeats 4000000 in
theorem cut_in (sb : Nat) (pb : Option Addr) (vx vy : Value) (O A : List UInt8) (base : Nat) (t : Tr) (a : Option Addr) (off : Int) (w : World) (hB : Hid (ShB w base sb pb vx vy O A)) (h : Hid (At w t a)) (h0 : (off == 0) = false) (h1 : (off == t.byt) = false) (hlo : 0 < off) (hhi : off < t.byt)
    (hw : Hid t.whole) (hf : Hid t.fine) (hg : Hid (Gds O A t.list)) (hz : Hid (t.size + 1 ≤ 1048576)) :
    Calls Tryz.prog 74 #[.pointer (some ⟨sb, 0, none⟩), .agg #[.pointer a], .int .i64 off] w fun e w' => ∃ T U, CutR O A t off T U ∧ CutGave w T U e w' := by
  have hC := Cw.new w a none none
  obtain ⟨W0, hW0⟩ : ∃ W0, ((w.alloc (.cells #[.pointer a] 53)).alloc (.cells #[.pointer none] 53)).alloc (.cells #[.pointer none] 53) = W0 := ⟨_, rfl⟩
  rw [hW0] at hC
  obtain ⟨c0, c1, c2, f1, f2⟩ := hC.cells
  have HC := hid hC
  clear hC
  go_enter Tryz.func74, Tryz.ntmps74
  go_wp2_with (first
    | (go_at_call 73; refine (Bytes_any t a _ (h.out.keep HC.out.below)).mono ?_; rintro e w9 ⟨rfl, hw9⟩; have C9 := hid (HC.out.call (bAlloc (Below.refl _ _) (.cells #[.pointer a] 53))); rw [← hw9] at C9; clear c0 c1 c2 f1 f2 hw9 hW0; obtain ⟨c0, c1, c2, f1, f2⟩ := C9.out.cells)
    | (go_at_call 59; refine (Find52_yes t a off _ (by omega) hhi hf (h.out.keep C9.out.below)).mono ?_; rintro e w8 ⟨j, x0, rfl, hit, hb8⟩; obtain ⟨x, rfl⟩ : ∃ x : Nat, x0 = x := (by obtain ⟨pp, _, q, _⟩ := hit; exact ⟨x0.toNat, by omega⟩); have C8 := hid (C9.out.call hb8); clear c0 c1 c2 f1 f2 hb8; obtain ⟨c0, c1, c2, f1, f2⟩ := C8.out.cells; have hj := hid (hit_lt52 hit); have Hit := hid hit; clear hit)
    | (go_at_call 77; refine (Split_yes t a j _ (show j ≤ t.size from by have := hj.out; have := t.size_list; omega) hf hw (h.out.keep C8.out.below)).mono ?_; rintro e w7 ⟨x7, y7, rfl, hx7, hy7, hb7⟩; have C7 := hid (C8.out.call hb7); have HX := hid hx7; have HY := hid hy7; clear c0 c1 c2 f1 f2 hb7 hx7 hy7; obtain ⟨c0, c1, c2, f1, f2⟩ := C7.out.cells))
  · have C6 := (C7.out.set1 x7).set2 y7
    have N6 := (C7.out.nods1 (.pointer x7)).trans ((C7.out.set1 x7).nods2 (.pointer y7))
    have hX := hid (N6.at HX.out)
    have hY := hid (N6.at HY.out)
    clear c0 c1 c2 f1 f2 N6
    generalize (w7.setCell ⟨w.heap.size + 1, 0, none⟩ (.pointer x7)).setCell ⟨w.heap.size + 1 + 1, 0, none⟩ (.pointer y7) = w6 at *
    obtain ⟨c0, c1, c2, f1, f2⟩ := C6.cells
    have HC6 := hid C6
    clear C6
    go_region
    go_wp2
    rename_i ex
    obtain ⟨pp, q1, q2, q3, q4⟩ := Hit.out
    have F := ((HC6.out.set1 x7).set2 y7).drew
    have N := (HC6.out.nods1 (.pointer x7)).trans ((HC6.out.set1 x7).nods2 (.pointer y7))
    refine bodyPost_ret (v := .tuple #[.agg #[.pointer x7], .agg #[.pointer y7]]) (by simp [results, Tryz.results74, go_sem, c1, c2]) rfl ⟨_, _, .inr (.inr ⟨j, x, pp, hlo, hhi, q1, q2, q3, q4, .inl ⟨by simpa using ex, rfl, rfl⟩⟩), x7, y7, rfl, (N.at hX.out).drew, (N.at hY.out).drew, F.below⟩
  · have hx0 : 0 < x := by
      rcases Nat.eq_zero_or_pos x with rfl | h
      · simp_all
      · exact h
    have C6 := (C7.out.set1 x7).set2 y7
    have N6 := (C7.out.nods1 (.pointer x7)).trans ((C7.out.set1 x7).nods2 (.pointer y7))
    have hX := hid (N6.at HX.out)
    have hY := hid (N6.at HY.out)
    clear c0 c1 c2 f1 f2 N6
    generalize (w7.setCell ⟨w.heap.size + 1, 0, none⟩ (.pointer x7)).setCell ⟨w.heap.size + 1 + 1, 0, none⟩ (.pointer y7) = w6 at *
    obtain ⟨c0, c1, c2, f1, f2⟩ := C6.cells
    have HC6 := hid C6
    clear C6
    have hjb : j ≤ 1048576 := by have := hj.out; have := t.size_list; have := hf.out.2; omega
    have HS : Hid (∀ W, At W t a → Calls Tryz.prog 77 #[.agg #[.pointer a], .int .i64 ((j : Int) + 1)] W fun e w' => ∃ x y, e = .returned (.tuple #[.agg #[.pointer x], .agg #[.pointer y], .int .i64 0]) ∧ At w' (Tr.splitT t (j + 1)).1 x ∧ At w' (Tr.splitT t (j + 1)).2 y ∧ Below W.heap.size W w') := fun W hW => by
      have := Split_yes t a (j + 1) W (show j + 1 ≤ t.size from by have := hj.out; have := t.size_list; omega) hf hw hW
      rwa [Int.natCast_succ] at this
    go_wp2_with (first
      | (go_at_call 60; refine (Get_yes t a j _ (by have := hj.out; have := t.size_list; omega) hf.out.2 (h.out.keep HC6.out.below)).mono ?_; rintro e w5 ⟨ps, po0, pl0, pn, hget, rfl, hb5⟩; obtain ⟨po, pl, e1, e2, k1, k2, k3⟩ := Ab.hd_parts (hg.out.at hget).hold; simp only at e1 e2 k1 k2; subst e1 e2; have C5 := hid (HC6.out.call hb5); have X5 := hid (hX.out.keep hb5); have HG := hid hget; clear c0 c1 c2 f1 f2 hb5 hget; have C5a := hid (C5.out.call (bAlloc (Below.refl _ _) (.cells #[.int .i64 ps, .int .i64 po, .int .i64 pl, .int .i64 pn] 59))); have P5 := World.alloc_heap_new w5 (.cells #[.int .i64 ps, .int .i64 po, .int .i64 pl, .int .i64 pn] 59); obtain ⟨c0, c1, c2, f1, f2⟩ := C5a.out.cells; have X5a := hid (X5.out.alloc (.cells #[.int .i64 ps, .int .i64 po, .int .i64 pl, .int .i64 pn] 59)))
      | (go_at_call 77; refine (HS.out _ (h.out.keep C5a.out.below)).mono ?_; rintro e w4 ⟨x4, y4, rfl, hx4, hy4, hb4⟩; have C4 := hid (C5a.out.call hb4); have X4 := hid (X5a.out.keep hb4); have p4 := (hb4.block _ (sh_lt P5)).trans P5; obtain ⟨d0, d1, d2, d3⟩ := four_cells p4; have P4 := hid p4; have Y4 := hid hy4; have hne : ¬ (w5.heap.size = w.heap.size + 1 + 1) := (by have := sh_lt C5.out.b2; omega); have hne' : ¬ (w.heap.size + 1 + 1 = w5.heap.size) := (fun e => hne e.symm); clear c0 c1 c2 f1 f2 hb4 hx4 hy4 P5 p4; obtain ⟨c0, c1, c2, f1, f2⟩ := C4.out.cells))
    have C3 := hid (C4.out.set2 y4)
    have n3 := C4.out.nods2 (.pointer y4)
    have X3 := hid (n3.at X4.out)
    have Y3 := hid (n3.at Y4.out)
    clear c0 c1 c2 f1 f2 n3 d0 d1 d2 d3 P4
    generalize w4.setCell ⟨w.heap.size + 1 + 1, 0, none⟩ (.pointer y4) = w3 at *
    have hgd := hg.out.at HG.out
    have hxl : x < pl := by
      obtain ⟨pp, q1, q2, q3, q4⟩ := Hit.out
      rw [HG.out] at q1
      cases q1
      simp only at q3
      omega
    have hft := hgd.fit
    simp only [Pc.fit] at hft
    obtain ⟨g1, g2, g3, g4, _⟩ := cut_good hgd (i := (x : Int)) (by omega) (by simp only; omega)
    have fB1 : fitB x (Ab.nl (Ab.cutL ps po x O A) : Nat) = true := by have := g1.fit; simpa [fitB, Pc.fit, fstP] using this
    have fB2 : fitB ((pl : Int) - x) (pn - (Ab.nl (Ab.cutL ps po x O A) : Nat)) = true := by have := g2.fit; simpa [fitB, Pc.fit, sndP] using this
    have hsp := Tr.splitT_whole t j hw.out.1
    have hsp2 := Tr.splitT_whole t (j + 1) hw.out.1
    have hl1 := (Tr.splitT_list t j).1
    have hl2 := (Tr.splitT_list t (j + 1)).2
    have fl := (Gds.fine hg.out)
    have hJ1 : Hid (fineL ((Tr.splitT t j).1.list ++ ⟨ps, po, x, (Ab.nl (Ab.cutL ps po x O A) : Nat)⟩ :: (Tr.mk none).list)) := by
      rw [hl1]
      refine ⟨fun q hq => ?_, ?_⟩
      · rcases List.mem_append.1 hq with hq | hq
        · exact (hg.out.take j q hq).fit
        · rcases List.mem_cons.1 hq with rfl | hq
          · exact g1.fit
          · cases hq
      · have := hz.out
        have := t.size_list
        simp [Tr.list]
        omega
    have hJ2 : Hid (fineL ((Tr.mk none).list ++ ⟨ps, (po : Int) + x, (pl : Int) - x, pn - (Ab.nl (Ab.cutL ps po x O A) : Nat)⟩ :: (Tr.splitT t (j + 1)).2.list)) := by
      rw [hl2]
      refine ⟨fun q hq => ?_, ?_⟩
      · rcases List.mem_append.1 hq with hq | hq
        · cases hq
        · rcases List.mem_cons.1 hq with rfl | hq
          · exact g2.fit
          · exact (hg.out.drop (j + 1) q hq).fit
      · have := hz.out
        have := t.size_list
        simp [Tr.list]
        omega
    have hcp := hid (fun W (hW : ShB W base sb pb vx vy O A) => cutPiece_yes sb pb vx vy O A base ps po pl x pn W k1 (by omega) k2 hW ⟨by omega, by omega⟩ (by omega))
    clear hl1 hl2 fl hft g1 g2 g3 g4 hne hne'
    go_wp2_with (first
      | (go_at_call 66; refine (hcp.out _ (hB.out.keep C3.out.below)).mono ?_; rintro e w2 ⟨rfl, hb2⟩; have C2 := hid (C3.out.call hb2); have X2 := hid (X3.out.keep hb2); have Y2 := hid (Y3.out.keep hb2); clear hb2))
    have C1 := hid (C2.out.call (bAA w2 (.cells #[.int .i64 ps, .int .i64 po, .int .i64 x, .int .i64 (Ab.nl (Ab.cutL ps po x O A) : Nat)] 59) (.cells #[.int .i64 ps, .int .i64 ((po : Int) + x), .int .i64 ((pl : Int) - x), .int .i64 (pn - (Ab.nl (Ab.cutL ps po x O A) : Nat))] 59)))
    have X1 := hid (X2.out.keep (bAA w2 (.cells #[.int .i64 ps, .int .i64 po, .int .i64 x, .int .i64 (Ab.nl (Ab.cutL ps po x O A) : Nat)] 59) (.cells #[.int .i64 ps, .int .i64 ((po : Int) + x), .int .i64 ((pl : Int) - x), .int .i64 (pn - (Ab.nl (Ab.cutL ps po x O A) : Nat))] 59)))
    have Y1 := hid (Y2.out.keep (bAA w2 (.cells #[.int .i64 ps, .int .i64 po, .int .i64 x, .int .i64 (Ab.nl (Ab.cutL ps po x O A) : Nat)] 59) (.cells #[.int .i64 ps, .int .i64 ((po : Int) + x), .int .i64 ((pl : Int) - x), .int .i64 (pn - (Ab.nl (Ab.cutL ps po x O A) : Nat))] 59)))
    have E1 := hid ((Below.heap_alloc (w2.alloc (.cells #[.int .i64 ps, .int .i64 po, .int .i64 x, .int .i64 (Ab.nl (Ab.cutL ps po x O A) : Nat)] 59)) (.cells #[.int .i64 ps, .int .i64 ((po : Int) + x), .int .i64 ((pl : Int) - x), .int .i64 (pn - (Ab.nl (Ab.cutL ps po x O A) : Nat))] 59) w2.heap.size (by simp)).trans (World.alloc_heap_new w2 _))
    have E2 := hid (alloc2_here w2 (.cells #[.int .i64 ps, .int .i64 po, .int .i64 x, .int .i64 (Ab.nl (Ab.cutL ps po x O A) : Nat)] 59) (.cells #[.int .i64 ps, .int .i64 ((po : Int) + x), .int .i64 ((pl : Int) - x), .int .i64 (pn - (Ab.nl (Ab.cutL ps po x O A) : Nat))] 59))
    generalize (w2.alloc (.cells #[.int .i64 ps, .int .i64 po, .int .i64 x, .int .i64 (Ab.nl (Ab.cutL ps po x O A) : Nat)] 59)).alloc (.cells #[.int .i64 ps, .int .i64 ((po : Int) + x), .int .i64 ((pl : Int) - x), .int .i64 (pn - (Ab.nl (Ab.cutL ps po x O A) : Nat))] 59) = w1 at *
    obtain ⟨c0, c1, c2, f1, f2⟩ := C1.out.cells
    obtain ⟨d0, d1, d2, d3⟩ := four_cells E1.out
    obtain ⟨e0, e1, e2, e3⟩ := four_cells E2.out
    have hS : w1.drew.cell? ⟨w.heap.size + 1, 0, none⟩ = some (.pointer x7) ∧ w1.drew.cell? ⟨w.heap.size + 1 + 1, 0, none⟩ = some (.pointer y4) ∧ w1.drew.cell? ⟨w2.heap.size, 0, none⟩ = some (.int .i64 ps) ∧ w1.drew.cell? ⟨w2.heap.size, 1, none⟩ = some (.int .i64 po) ∧ w1.drew.cell? ⟨w2.heap.size, 2, none⟩ = some (.int .i64 x) ∧ w1.drew.cell? ⟨w2.heap.size, 3, none⟩ = some (.int .i64 (Ab.nl (Ab.cutL ps po x O A) : Nat)) ∧ w1.drew.cell? ⟨w2.heap.size + 1, 0, none⟩ = some (.int .i64 ps) ∧ w1.drew.cell? ⟨w2.heap.size + 1, 1, none⟩ = some (.int .i64 ((po : Int) + x)) ∧ w1.drew.cell? ⟨w2.heap.size + 1, 2, none⟩ = some (.int .i64 ((pl : Int) - x)) ∧ w1.drew.cell? ⟨w2.heap.size + 1, 3, none⟩ = some (.int .i64 (pn - (Ab.nl (Ab.cutL ps po x O A) : Nat))) := ⟨c1, c2, d0, d1, d2, d3, e0, e1, e2, e3⟩
    refine wp_region_late (S := fun w' => w'.cell? ⟨w.heap.size + 1, 0, none⟩ = some (.pointer x7) ∧ w'.cell? ⟨w.heap.size + 1 + 1, 0, none⟩ = some (.pointer y4) ∧ w'.cell? ⟨w2.heap.size, 0, none⟩ = some (.int .i64 ps) ∧ w'.cell? ⟨w2.heap.size, 1, none⟩ = some (.int .i64 po) ∧ w'.cell? ⟨w2.heap.size, 2, none⟩ = some (.int .i64 x) ∧ w'.cell? ⟨w2.heap.size, 3, none⟩ = some (.int .i64 (Ab.nl (Ab.cutL ps po x O A) : Nat)) ∧ w'.cell? ⟨w2.heap.size + 1, 0, none⟩ = some (.int .i64 ps) ∧ w'.cell? ⟨w2.heap.size + 1, 1, none⟩ = some (.int .i64 ((po : Int) + x)) ∧ w'.cell? ⟨w2.heap.size + 1, 2, none⟩ = some (.int .i64 ((pl : Int) - x)) ∧ w'.cell? ⟨w2.heap.size + 1, 3, none⟩ = some (.int .i64 (pn - (Ab.nl (Ab.cutL ps po x O A) : Nat)))) (n0 := 8) (by kernel_rfl) fun hsh => ?_
    change wpLate _ _ _ _ _ _ _ _ _ w1.drew
    refine wpLate_take (i := 0) (v := .agg #[.pointer x7]) rfl (by kernel_rfl) (by kernel_rfl) (by kernel_rfl) (by kernel_rfl) hsh rfl (fun _ _ _ h => h) (.inl ⟨rfl, fun w' h => by obtain ⟨h1, h2, h3, h4, h5, h6, h7, h8, h9, h10⟩ := h; go_simp⟩) hS fun hsh => ?_
    refine wpLate_take (i := 1) (v := .agg #[.int .i64 ps, .int .i64 po, .int .i64 x, .int .i64 (Ab.nl (Ab.cutL ps po x O A) : Nat)]) rfl (by kernel_rfl) (by kernel_rfl) (by kernel_rfl) (by kernel_rfl) hsh rfl (fun _ _ _ h => h) (.inl ⟨rfl, fun w' h => by obtain ⟨h1, h2, h3, h4, h5, h6, h7, h8, h9, h10⟩ := h; go_simp⟩) hS fun hsh => ?_
    refine wpLate_take (i := 2) (v := .agg #[.pointer none]) rfl (by kernel_rfl) (by kernel_rfl) (by kernel_rfl) (by kernel_rfl) hsh rfl (fun _ _ _ h => h) (.inl ⟨rfl, fun w' h => by obtain ⟨h1, h2, h3, h4, h5, h6, h7, h8, h9, h10⟩ := h; go_simp⟩) hS fun hsh => ?_
    refine wpLate_take (i := 4) (v := .agg #[.pointer none]) rfl (by kernel_rfl) (by kernel_rfl) (by kernel_rfl) (by kernel_rfl) hsh rfl (fun _ _ _ h => h) (.inl ⟨rfl, fun w' h => by obtain ⟨h1, h2, h3, h4, h5, h6, h7, h8, h9, h10⟩ := h; go_simp⟩) hS fun hsh => ?_
    refine wpLate_take (i := 5) (v := .agg #[.int .i64 ps, .int .i64 ((po : Int) + x), .int .i64 ((pl : Int) - x), .int .i64 (pn - (Ab.nl (Ab.cutL ps po x O A) : Nat))]) rfl (by kernel_rfl) (by kernel_rfl) (by kernel_rfl) (by kernel_rfl) hsh rfl (fun _ _ _ h => h) (.inl ⟨rfl, fun w' h => by obtain ⟨h1, h2, h3, h4, h5, h6, h7, h8, h9, h10⟩ := h; go_simp⟩) hS fun hsh => ?_
    refine wpLate_take (i := 6) (v := .agg #[.pointer y4]) rfl (by kernel_rfl) (by kernel_rfl) (by kernel_rfl) (by kernel_rfl) hsh rfl (fun _ _ _ h => h) (.inl ⟨rfl, fun w' h => by obtain ⟨h1, h2, h3, h4, h5, h6, h7, h8, h9, h10⟩ := h; go_simp⟩) hS fun hsh => ?_
    refine wpLate_step (i := 3) (by kernel_rfl) rfl rfl fun K hK => ?_
    go_simp
    refine (Join_fit (Tr.splitT t j).1 (Tr.mk none) x7 none ps po x (Ab.nl (Ab.cutL ps po x O A) : Nat) _ fB1 hJ1 hsp.1 nil_whole X1.out.drew rfl).mono ?_
    rintro e wa ⟨z1, rfl, hz1, hba⟩
    have Ca := hid (C1.out.call (bD hba))
    have Ya := hid (Y1.out.keep (bD hba))
    have Ea := hid (((bD hba).block _ (sh_lt E1.out)).trans E1.out)
    have Eb := hid (((bD hba).block _ (sh_lt E2.out)).trans E2.out)
    have Za := hid hz1
    clear c0 c1 c2 f1 f2 d0 d1 d2 d3 e0 e1 e2 e3 hS hba hz1
    obtain ⟨c0, c1, c2, f1, f2⟩ := Ca.out.cells
    obtain ⟨d0, d1, d2, d3⟩ := four_cells Ea.out
    obtain ⟨e0, e1, e2, e3⟩ := four_cells Eb.out
    refine hK _ _ (fun _ _ => ⟨c1, c2, d0, d1, d2, d3, e0, e1, e2, e3⟩) ?_
    clear hK K
    refine wpLate_step (i := 7) (by kernel_rfl) rfl rfl fun K hK => ?_
    go_simp
    refine (Join_fit (Tr.mk none) (Tr.splitT t (j + 1)).2 none y4 ps ((po : Int) + x) ((pl : Int) - x) (pn - (Ab.nl (Ab.cutL ps po x O A) : Nat)) _ fB2 hJ2 nil_whole hsp2.2 rfl Ya.out).mono ?_
    rintro e wb ⟨z2, rfl, hz2, hbb⟩
    have Cb := hid (Ca.out.call hbb)
    have Zb := hid (Za.out.keep hbb)
    have Zc := hid hz2
    have Ec := hid ((hbb.block _ (sh_lt Ea.out)).trans Ea.out)
    have Ed := hid ((hbb.block _ (sh_lt Eb.out)).trans Eb.out)
    clear c0 c1 c2 f1 f2 d0 d1 d2 d3 e0 e1 e2 e3 hbb hz2
    obtain ⟨c0, c1, c2, f1, f2⟩ := Cb.out.cells
    obtain ⟨d0, d1, d2, d3⟩ := four_cells Ec.out
    obtain ⟨e0, e1, e2, e3⟩ := four_cells Ed.out
    refine hK _ _ (fun _ _ => ⟨c1, c2, d0, d1, d2, d3, e0, e1, e2, e3⟩) ?_
    clear hK K d0 d1 d2 d3 e0 e1 e2 e3
    refine wpLate_step (i := 8) (by kernel_rfl) rfl rfl fun K hK => ?_
    go_simp
    refine hK _ _ (fun h => absurd rfl h) ?_
    clear hK K
    refine wpLate_step (i := 9) (by kernel_rfl) rfl rfl fun K hK => ?_
    go_simp
    refine hK _ _ (fun _ h => by cases h) ?_
    clear hK K
    refine wpLate_done (by kernel_rfl) ?_
    go_wp2
    have F := (Cb.out.set1 z1).set2 z2
    have N := (Cb.out.nods1 (.pointer z1)).trans ((Cb.out.set1 z1).nods2 (.pointer z2))
    obtain ⟨pp, q1, q2, q3, q4⟩ := Hit.out
    rw [HG.out] at q1
    obtain rfl := (Option.some.inj q1).symm
    exact bodyPost_ret (v := .tuple #[.agg #[.pointer z1], .agg #[.pointer z2]]) (by simp [results, Tryz.results74, go_sem, c1, c2]) rfl ⟨_, _, .inr (.inr ⟨j, x, _, hlo, hhi, HG.out, q2, q3, q4, .inr ⟨by omega, rfl, rfl⟩⟩), z1, z2, rfl, N.at Zb.out, N.at Zc.out, F.below⟩

/-- A cut at any byte. -/
theorem cut_any (sb : Nat) (pb : Option Addr) (vx vy : Value) (O A : List UInt8) (base : Nat) (t : Tr) (a : Option Addr) (off : Int) (w : World) (hB : ShB w base sb pb vx vy O A) (h : At w t a) (hlo : 0 ≤ off) (hhi : off ≤ t.byt)
    (hw : t.whole) (hf : t.fine) (hg : Gds O A t.list) (hz : t.size + 1 ≤ 1048576) :
    Calls Tryz.prog 74 #[.pointer (some ⟨sb, 0, none⟩), .agg #[.pointer a], .int .i64 off] w fun e w' => ∃ T U, CutR O A t off T U ∧ CutGave w T U e w' := by
  by_cases h0 : off = 0
  · subst h0
    exact (cut_zero _ t a w (hid h)).mono fun e w' k => ⟨_, _, .inl ⟨rfl, rfl, rfl⟩, k⟩
  · by_cases h1 : off = t.byt
    · subst h1
      exact (cut_all _ t a w (hid h) (by simpa using h0)).mono fun e w' k => ⟨_, _, .inr (.inl ⟨h0, rfl, rfl, rfl⟩), k⟩
    · exact cut_in sb pb vx vy O A base t a off w (hid hB) (hid h) (by simpa using h0) (by simpa using h1) (by omega) (by omega) (hid hw) (hid hf) (hid hg) (hid hz)

/-- What a cut is, in lists and bytes. -/
theorem CutR.ok {O A : List UInt8} {t T U : Tr} {off : Int} (h : CutR O A t off T U) (hw : t.whole) (hg : Gds O A t.list) :
    T.whole ∧ U.whole ∧ Gds O A T.list ∧ Gds O A U.list ∧ txt O A T.list = (txt O A t.list).take off.toNat ∧ txt O A U.list = (txt O A t.list).drop off.toNat ∧ T.size + U.size ≤ t.size + 1 := by
  rcases h with ⟨rfl, rfl, rfl⟩ | ⟨h0, rfl, rfl, rfl⟩ | ⟨j, x, p, h0, h1, hp, hx, hxl, ho, h⟩
  · exact ⟨nil_whole, hw, Gds.nil _ _, hg, by simp [Tr.list, txt_nil], by simp, by simp [Tr.size]⟩
  · have e := txt_len hg
    rw [← byt_list] at e
    refine ⟨hw, nil_whole, hg, Gds.nil _ _, ?_, ?_, by simp [Tr.size]⟩
    · rw [List.take_of_length_le (by omega)]
    · rw [List.drop_eq_nil_of_le (by omega)]; rfl
  · have hlt : j < t.list.length := (List.getElem?_eq_some_iff.1 hp).1
    have hsplit : t.list = t.list.take j ++ p :: t.list.drop (j + 1) := by
      conv => lhs; rw [← List.take_append_drop j t.list]
      rw [List.drop_eq_getElem_cons hlt]
      obtain ⟨_, e⟩ := List.getElem?_eq_some_iff.1 hp
      rw [e]
    have l1 := txt_len (hg.take j)
    have hpg := hg.at hp
    have l2 := hpg.len
    have et : txt O A t.list = txt O A (t.list.take j) ++ (pcs O A p ++ txt O A (t.list.drop (j + 1))) := by
      conv => lhs; rw [hsplit]
      rw [txt_append, txt_cons]
    have s1 := Tr.splitT_whole t j hw.1
    have s2 := Tr.splitT_whole t (j + 1) hw.1
    have q1 := Tr.splitT_list t j
    have q2 := Tr.splitT_list t (j + 1)
    have z := t.size_list
    rcases h with ⟨rfl, rfl, rfl⟩ | ⟨hx0, rfl, rfl⟩
    · have eo : off.toNat = (txt O A (t.list.take j)).length := by omega
      have e2 : txt O A (t.list.drop j) = pcs O A p ++ txt O A (t.list.drop (j + 1)) := by
        rw [List.drop_eq_getElem_cons hlt, txt_cons]
        obtain ⟨_, e⟩ := List.getElem?_eq_some_iff.1 hp
        rw [e]
      have y1 := (Tr.splitT t j).1.size_list
      have y2 := (Tr.splitT t j).2.size_list
      rw [q1.1, List.length_take] at y1
      rw [q1.2, List.length_drop] at y2
      refine ⟨s1.1, s1.2, by rw [q1.1]; exact hg.take j, by rw [q1.2]; exact hg.drop j, ?_, ?_, by omega⟩
      · rw [q1.1, et, eo, List.take_left]
      · rw [q1.2, et, eo, List.drop_left, e2]
    · obtain ⟨g1, g2, g3, _, g5⟩ := cut_good hpg hx0 hxl
      have l3 := g1.len
      simp only [fstP] at l3
      have eo : off.toNat = (txt O A (t.list.take j) ++ pcs O A (fstP O A p x)).length := by rw [List.length_append]; simp only [fstP]; omega
      have m1 : (Tr.joinT (Tr.splitT t j).1 (fstP O A p x) (Tr.mk none)).list = t.list.take j ++ [fstP O A p x] := by rw [Tr.joinT_list, q1.1]; rfl
      have m2 : (Tr.joinT (Tr.mk none) (sndP O A p x) (Tr.splitT t (j + 1)).2).list = sndP O A p x :: t.list.drop (j + 1) := by rw [Tr.joinT_list, q2.2]; rfl
      have et2 : txt O A t.list = (txt O A (t.list.take j) ++ pcs O A (fstP O A p x)) ++ (pcs O A (sndP O A p x) ++ txt O A (t.list.drop (j + 1))) := by
        rw [et, ← g3]; simp
      have y1 := (Tr.joinT (Tr.splitT t j).1 (fstP O A p x) (Tr.mk none)).size_list
      have y2 := (Tr.joinT (Tr.mk none) (sndP O A p x) (Tr.splitT t (j + 1)).2).size_list
      rw [m1] at y1
      rw [m2] at y2
      simp only [List.length_append, List.length_take, List.length_cons, List.length_nil, List.length_drop] at y1 y2
      refine ⟨Tr.joinT_whole _ s1.1 nil_whole, Tr.joinT_whole _ nil_whole s2.2, ?_, ?_, ?_, ?_, by omega⟩
      · rw [m1]; exact (hg.take j).append (Gds.cons g1 (Gds.nil _ _))
      · rw [m2]; exact Gds.cons g2 (hg.drop (j + 1))
      · rw [m1, txt_append, txt_cons, txt_nil, List.append_nil, et2, eo, List.take_left]
      · rw [m2, txt_cons, et2, eo, List.drop_left]

end Go.Proofs.YtmhpeppbhjpkiaaGreat

/- A sheet's joinLast: a piece put to the end of a tree's last one, if they join. -/
namespace Go.Proofs.YtmhpeppbhjpkiaaGreat
open Go.RowKit

/-- joinLast's own variables behind w. -/
structure Jw (w W : World) (a : Option Addr) (p : Pc) : Prop where
  below : Below w.heap.size w W
  b0 : W.heap[w.heap.size]? = some (.cells #[.pointer a] 53 (0, 0))
  b1 : W.heap[w.heap.size + 1]? = some (.cells #[.int .i64 p.s, .int .i64 p.o, .int .i64 p.l, .int .i64 p.n] 59 (0, 0))
  b2 : W.heap[w.heap.size + 1 + 1]? = some (.cells #[.pointer none] 53 (0, 0))
  b3 : W.heap[w.heap.size + 1 + 1 + 1]? = some (.cells #[.int .i64 0, .int .i64 0, .int .i64 0, .int .i64 0] 59 (0, 0))

theorem Jw.new (w : World) (a : Option Addr) (p : Pc) : Jw w ((((w.alloc (.cells #[.pointer a] 53)).alloc (.cells #[.int .i64 p.s, .int .i64 p.o, .int .i64 p.l, .int .i64 p.n] 59)).alloc (.cells #[.pointer none] 53)).alloc (.cells #[.int .i64 0, .int .i64 0, .int .i64 0, .int .i64 0] 59)) a p :=
  ⟨bAlloc (bAAA w _ _ _) _, (((Below.heap_alloc _ _ _ (by simp; omega)).trans (Below.heap_alloc _ _ _ (by simp; omega))).trans (Below.heap_alloc _ _ _ (by simp))).trans (World.alloc_heap_new w _),
    ((Below.heap_alloc _ _ _ (by simp)).trans (Below.heap_alloc _ _ _ (by simp))).trans (alloc2_here w _ _), (Below.heap_alloc _ _ _ (by simp)).trans (alloc3_here w _ _ _), by
      have := World.alloc_heap_new (((w.alloc (.cells #[.pointer a] 53)).alloc (.cells #[.int .i64 p.s, .int .i64 p.o, .int .i64 p.l, .int .i64 p.n] 59)).alloc (.cells #[.pointer none] 53)) (.cells #[.int .i64 0, .int .i64 0, .int .i64 0, .int .i64 0] 59)
      simpa using this⟩
theorem Jw.call {w W W' : World} {a : Option Addr} {p : Pc} (h : Jw w W a p) (hb : Below W.heap.size W W') : Jw w W' a p :=
  ⟨h.below.trans (hb.mono h.below.size), (hb.block _ (sh_lt h.b0)).trans h.b0, (hb.block _ (sh_lt h.b1)).trans h.b1, (hb.block _ (sh_lt h.b2)).trans h.b2, (hb.block _ (sh_lt h.b3)).trans h.b3⟩
theorem Jw.cells {w W : World} {a : Option Addr} {p : Pc} (h : Jw w W a p) :
    W.cell? ⟨w.heap.size, 0, none⟩ = some (.pointer a) ∧ (W.cell? ⟨w.heap.size + 1, 0, none⟩ = some (.int .i64 p.s) ∧ W.cell? ⟨w.heap.size + 1, 1, none⟩ = some (.int .i64 p.o) ∧ W.cell? ⟨w.heap.size + 1, 2, none⟩ = some (.int .i64 p.l) ∧ W.cell? ⟨w.heap.size + 1, 3, none⟩ = some (.int .i64 p.n)) :=
  ⟨(box_cell h.b0).1, four_cells h.b1⟩

theorem Jw.frees {w W : World} {a : Option Addr} {p : Pc} (h : Jw w W a p) :
    W.cell? ⟨w.heap.size + 1 + 1, 0, none⟩ = some (.pointer none) ∧ W.frozen? ⟨w.heap.size + 1 + 1, 0, none⟩ = false ∧ (W.cell? ⟨w.heap.size + 1 + 1 + 1, 0, none⟩ = some (.int .i64 0) ∧ W.cell? ⟨w.heap.size + 1 + 1 + 1, 1, none⟩ = some (.int .i64 0) ∧ W.cell? ⟨w.heap.size + 1 + 1 + 1, 2, none⟩ = some (.int .i64 0) ∧ W.cell? ⟨w.heap.size + 1 + 1 + 1, 3, none⟩ = some (.int .i64 0)) ∧ ∀ i, W.frozen? ⟨w.heap.size + 1 + 1 + 1, i, none⟩ = false :=
  ⟨(box_cell h.b2).1, (box_cell h.b2).2, four_cells h.b3, free_all h.b3⟩

/-- What joinLast gives. -/
def JlGave (w : World) (T : Tr) (q : Pc) (b : Bool) (e : Ending) (w' : World) : Prop := ∃ x, e = .returned (.tuple #[.agg #[.pointer x], q.v, .bool b]) ∧ At w' T x ∧ Below w.heap.size w w'

/-- The four cells of b3 stored, and the one of b2: nodes lie on. -/
theorem Jw.fin {w W : World} {a : Option Addr} {p : Pc} (h : Jw w W a p) (x : Option Addr) (v1 v2 v3 v4 v5 : Value) {T : Tr} (hT : At W T x) :
    At (((((W.setCell ⟨w.heap.size + 1 + 1, 0, none⟩ v1).setCell ⟨w.heap.size + 1 + 1 + 1, 0, none⟩ v2).setCell ⟨w.heap.size + 1 + 1 + 1, 1, none⟩ v3).setCell ⟨w.heap.size + 1 + 1 + 1, 2, none⟩ v4).setCell ⟨w.heap.size + 1 + 1 + 1, 3, none⟩ v5) T x ∧
    Below w.heap.size w (((((W.setCell ⟨w.heap.size + 1 + 1, 0, none⟩ v1).setCell ⟨w.heap.size + 1 + 1 + 1, 0, none⟩ v2).setCell ⟨w.heap.size + 1 + 1 + 1, 1, none⟩ v3).setCell ⟨w.heap.size + 1 + 1 + 1, 2, none⟩ v4).setCell ⟨w.heap.size + 1 + 1 + 1, 3, none⟩ v5) := by
  have u1 : w.heap.size ≤ w.heap.size + 1 + 1 := by omega
  have u2 : w.heap.size ≤ w.heap.size + 1 + 1 + 1 := by omega
  refine ⟨?_, bset (bset (bset (bset (bset h.below u1 _ _) u2 _ _) u2 _ _) u2 _ _) u2 _ _⟩
  refine Nods.at (w := W) (fun b cs hb => ?_) hT
  have e1 : b ≠ w.heap.size + 1 + 1 := fun e => by subst e; rw [h.b2] at hb; cases hb
  have e2 : b ≠ w.heap.size + 1 + 1 + 1 := fun e => by subst e; rw [h.b3] at hb; cases hb
  rw [Below.heap_setCell _ _ _ _ e2, Below.heap_setCell _ _ _ _ e2, Below.heap_setCell _ _ _ _ e2, Below.heap_setCell _ _ _ _ e2, Below.heap_setCell _ _ _ _ e1]
  exact hb

set_option maxHeartbeats 4000000 in
/-- A tree without pieces. -/
theorem joinLast_nil (t : Tr) (a : Option Addr) (s o l n : Int) (w : World) (h : Hid (At w t a)) (h0 : Hid (t.size = 0)) (hl1 : -9223372036854775808 ≤ l) (hl2 : l ≤ 9223372036854775807) :
    Calls Tryz.prog 75 #[.agg #[.pointer a], .agg #[.int .i64 s, .int .i64 o, .int .i64 l, .int .i64 n]] w (JlGave w t ⟨s, o, l, n⟩ false) := by
  have hJ := Jw.new w a ⟨s, o, l, n⟩
  obtain ⟨W0, hW0⟩ : ∃ W0, (((w.alloc (.cells #[.pointer a] 53)).alloc (.cells #[.int .i64 s, .int .i64 o, .int .i64 l, .int .i64 n] 59)).alloc (.cells #[.pointer none] 53)).alloc (.cells #[.int .i64 0, .int .i64 0, .int .i64 0, .int .i64 0] 59) = W0 := ⟨_, rfl⟩
  rw [hW0] at hJ
  obtain ⟨c0, c1, c2, c3, c4⟩ := hJ.cells
  have HJ := hid hJ
  clear hJ
  have HL : Hid (∀ W, At W t a → Calls Tryz.prog 117 #[.agg #[.pointer a]] W fun e w' => e = .returned (.int .i64 0) ∧ w' = W.alloc (.cells #[.pointer a] 53)) := fun W hW => by
    have := Len_any t a W hW
    rwa [h0.out] at this
  have HG : Hid (∀ W, At W t a → Calls Tryz.prog 60 #[.agg #[.pointer a], .int .i64 (-1)] W fun e w' => e = .returned (.tuple #[.agg #[.int .i64 0, .int .i64 0, .int .i64 0, .int .i64 0], .int .i64 20]) ∧ Below W.heap.size W w') := fun W hW => Get_no t a (-1) W (by simp) hW
  have HJn : Hid (∀ W, Calls Tryz.prog 118 #[.agg #[.int .i64 0, .int .i64 0, .int .i64 0], .agg #[.int .i64 s, .int .i64 o, .int .i64 l]] W fun e w' => ∃ (x y z : Int) (b : Bool), e = .returned (.tuple #[.agg #[.int .i64 x, .int .i64 y, .int .i64 z], .bool b]) ∧ Below W.heap.size W w') := fun W => by
    cases hj : Ab.jnB 0 0 0 s o l with
    | true => exact (Ab.joins_yes 0 0 0 s o l W hj).mono fun e w' h => ⟨_, _, _, _, h.1, h.2⟩
    | false => exact (Ab.joins_no 0 0 0 s o l W (by decide) (by decide) hl1 hl2 hj).mono fun e w' h => ⟨_, _, _, _, h.1, h.2⟩
  go_enter Tryz.func75, Tryz.ntmps75
  go_wp2_with (first
    | (go_at_call 117; refine (HL.out _ (h.out.keep HJ.out.below)).mono ?_; rintro e w9 ⟨rfl, hw9⟩; have J9 := hid (HJ.out.call (bAlloc (Below.refl _ _) (.cells #[.pointer a] 53))); rw [← hw9] at J9; clear c0 c1 c2 c3 c4 hw9 hW0; obtain ⟨c0, c1, c2, c3, c4⟩ := J9.out.cells)
    | (go_at_call 60; refine (HG.out _ (h.out.keep J9.out.below)).mono ?_; rintro e w8 ⟨rfl, hb8⟩; have J8 := hid ((J9.out.call hb8).call (bAlloc (Below.refl _ _) (.cells #[.int .i64 0, .int .i64 0, .int .i64 0, .int .i64 0] 59))); clear c0 c1 c2 c3 c4 hb8; obtain ⟨c0, c1, c2, c3, c4⟩ := J8.out.cells)
    | (go_at_call 118; refine (HJn.out _).mono ?_; rintro e w7 ⟨x7, y7, z7, b7, rfl, hb7⟩; have J7 := hid ((J8.out.call hb7).call (bAlloc (Below.refl _ _) (.cells #[.int .i64 x7, .int .i64 y7, .int .i64 z7] 57))); clear c0 c1 c2 c3 c4 hb7; obtain ⟨c0, c1, c2, c3, c4⟩ := J7.out.cells))
  clear c0 c1 c2 c3 c4
  generalize w7.alloc (.cells #[.int .i64 x7, .int .i64 y7, .int .i64 z7] 57) = w6 at *
  obtain ⟨c0, c1, c2, c3, c4⟩ := J7.out.cells
  obtain ⟨d0, d1, ⟨d2, d3, d4, d5⟩, d6⟩ := J7.out.frees
  go_region
  go_wp2
  obtain ⟨F1, F2⟩ := J7.out.fin a (.pointer a) (.int .i64 s) (.int .i64 o) (.int .i64 l) (.int .i64 n) (h.out.keep J7.out.below)
  exact bodyPost_ret (v := .tuple #[.agg #[.pointer a], .agg #[.int .i64 s, .int .i64 o, .int .i64 l, .int .i64 n], .bool false]) (by simp [results, Tryz.results75, go_sem, d0, d2, d3, d4, d5]) rfl ⟨a, rfl, F1.drew, F2.drew⟩

set_option maxHeartbeats 4000000 in
/-- The last piece does not join. -/
theorem joinLast_no (t : Tr) (a : Option Addr) (m : Nat) (ps po pl pn : Int) (s o l n : Int) (w : World) (h : Hid (At w t a)) (hm : Hid (m + 1 = t.size)) (hf : Hid t.fine) (hl : Hid (t.list[m]? = some ⟨ps, po, pl, pn⟩)) (hb1 : -9223372036854775808 ≤ l) (hb2 : l ≤ 9223372036854775807) (hb3 : -9223372036854775808 ≤ pl) (hb4 : pl ≤ 9223372036854775807) (hj : Ab.jnB ps po pl s o l = false) :
    Calls Tryz.prog 75 #[.agg #[.pointer a], .agg #[.int .i64 s, .int .i64 o, .int .i64 l, .int .i64 n]] w (JlGave w t ⟨s, o, l, n⟩ false) := by
  have hJ := Jw.new w a ⟨s, o, l, n⟩
  obtain ⟨W0, hW0⟩ : ∃ W0, (((w.alloc (.cells #[.pointer a] 53)).alloc (.cells #[.int .i64 s, .int .i64 o, .int .i64 l, .int .i64 n] 59)).alloc (.cells #[.pointer none] 53)).alloc (.cells #[.int .i64 0, .int .i64 0, .int .i64 0, .int .i64 0] 59) = W0 := ⟨_, rfl⟩
  rw [hW0] at hJ
  obtain ⟨c0, c1, c2, c3, c4⟩ := hJ.cells
  have HJ := hid hJ
  clear hJ
  have HL : Hid (∀ W, At W t a → Calls Tryz.prog 117 #[.agg #[.pointer a]] W fun e w' => e = .returned (.int .i64 ((m : Int) + 1)) ∧ w' = W.alloc (.cells #[.pointer a] 53)) := fun W hW => by
    have := Len_any t a W hW
    rwa [← hm.out, Int.natCast_succ] at this
  have HG : Hid (∀ W, At W t a → Calls Tryz.prog 60 #[.agg #[.pointer a], .int .i64 (m : Int)] W fun e w' => e = .returned (.tuple #[.agg #[.int .i64 ps, .int .i64 po, .int .i64 pl, .int .i64 pn], .int .i64 0]) ∧ Below W.heap.size W w') := fun W hW =>
    (Get_yes t a m W (by have := hm.out; omega) hf.out.2 hW).mono fun e w' ⟨s1, o1, n1, k1, h1, h2, h3⟩ => by
      rw [hl.out] at h1
      cases h1
      exact ⟨h2, h3⟩
  have hmb : m ≤ 1048576 := by have := hm.out; have := hf.out.2; omega
  have HJn : Hid (∀ W, Calls Tryz.prog 118 #[.agg #[.int .i64 ps, .int .i64 po, .int .i64 pl], .agg #[.int .i64 s, .int .i64 o, .int .i64 l]] W fun e w' => e = .returned (.tuple #[.agg #[.int .i64 0, .int .i64 0, .int .i64 0], .bool false]) ∧ Below W.heap.size W w') := fun W => Ab.joins_no ps po pl s o l W hb3 hb4 hb1 hb2 hj
  go_enter Tryz.func75, Tryz.ntmps75
  go_wp2_with (first
    | (go_at_call 117; refine (HL.out _ (h.out.keep HJ.out.below)).mono ?_; rintro e w9 ⟨rfl, hw9⟩; have J9 := hid (HJ.out.call (bAlloc (Below.refl _ _) (.cells #[.pointer a] 53))); rw [← hw9] at J9; clear c0 c1 c2 c3 c4 hw9 hW0; obtain ⟨c0, c1, c2, c3, c4⟩ := J9.out.cells)
    | (go_at_call 60; refine (HG.out _ (h.out.keep J9.out.below)).mono ?_; rintro e w8 ⟨rfl, hb8⟩; have J8 := hid ((J9.out.call hb8).call (bAlloc (Below.refl _ _) (.cells #[.int .i64 ps, .int .i64 po, .int .i64 pl, .int .i64 pn] 59))); have P8 := hid (World.alloc_heap_new w8 (.cells #[.int .i64 ps, .int .i64 po, .int .i64 pl, .int .i64 pn] 59)); clear c0 c1 c2 c3 c4 hb8; obtain ⟨c0, c1, c2, c3, c4⟩ := J8.out.cells)
    | (go_at_call 118; refine (HJn.out _).mono ?_; rintro e w7 ⟨rfl, hb7⟩; have J7 := hid ((J8.out.call hb7).call (bAlloc (Below.refl _ _) (.cells #[.int .i64 0, .int .i64 0, .int .i64 0] 57))); have P7 := hid ((Below.heap_alloc w7 (.cells #[.int .i64 0, .int .i64 0, .int .i64 0] 57) _ (sh_lt ((hb7.block _ (sh_lt P8.out)).trans P8.out))).trans ((hb7.block _ (sh_lt P8.out)).trans P8.out)); clear c0 c1 c2 c3 c4 hb7; obtain ⟨c0, c1, c2, c3, c4⟩ := J7.out.cells))
  clear c0 c1 c2 c3 c4
  generalize w7.alloc (.cells #[.int .i64 0, .int .i64 0, .int .i64 0] 57) = w6 at *
  obtain ⟨c0, c1, c2, c3, c4⟩ := J7.out.cells
  obtain ⟨d0, d1, ⟨d2, d3, d4, d5⟩, d6⟩ := J7.out.frees
  go_region
  go_wp2
  obtain ⟨F1, F2⟩ := J7.out.fin a (.pointer a) (.int .i64 s) (.int .i64 o) (.int .i64 l) (.int .i64 n) (h.out.keep J7.out.below)
  exact bodyPost_ret (v := .tuple #[.agg #[.pointer a], .agg #[.int .i64 s, .int .i64 o, .int .i64 l, .int .i64 n], .bool false]) (by simp [results, Tryz.results75, go_sem, d0, d2, d3, d4, d5]) rfl ⟨a, rfl, F1.drew, F2.drew⟩

set_option maxHeartbeats 4000000 in
/-- The last piece joins. -/
theorem joinLast_yes (t : Tr) (a : Option Addr) (m : Nat) (ps po pl pn : Int) (s o l n : Int) (w : World) (h : Hid (At w t a)) (hm : Hid (m + 1 = t.size)) (hf : Hid t.fine) (hl : Hid (t.list[m]? = some ⟨ps, po, pl, pn⟩)) (_hb1 : -9223372036854775808 ≤ l) (_hb2 : l ≤ 9223372036854775807) (_hb3 : -9223372036854775808 ≤ pl) (_hb4 : pl ≤ 9223372036854775807) (hj : Ab.jnB ps po pl s o l = true) (hw : Hid t.whole) (hn1 : 0 ≤ pn ∧ pn ≤ 4294967296) (hn2 : 0 ≤ n ∧ n ≤ 4294967296) :
    Calls Tryz.prog 75 #[.agg #[.pointer a], .agg #[.int .i64 s, .int .i64 o, .int .i64 l, .int .i64 n]] w (JlGave w (Tr.splitT t m).1 ⟨ps, po, pl + l, pn + n⟩ true) := by
  have hJ := Jw.new w a ⟨s, o, l, n⟩
  obtain ⟨W0, hW0⟩ : ∃ W0, (((w.alloc (.cells #[.pointer a] 53)).alloc (.cells #[.int .i64 s, .int .i64 o, .int .i64 l, .int .i64 n] 59)).alloc (.cells #[.pointer none] 53)).alloc (.cells #[.int .i64 0, .int .i64 0, .int .i64 0, .int .i64 0] 59) = W0 := ⟨_, rfl⟩
  rw [hW0] at hJ
  obtain ⟨c0, c1, c2, c3, c4⟩ := hJ.cells
  have HJ := hid hJ
  clear hJ
  have HL : Hid (∀ W, At W t a → Calls Tryz.prog 117 #[.agg #[.pointer a]] W fun e w' => e = .returned (.int .i64 ((m : Int) + 1)) ∧ w' = W.alloc (.cells #[.pointer a] 53)) := fun W hW => by
    have := Len_any t a W hW
    rwa [← hm.out, Int.natCast_succ] at this
  have HG : Hid (∀ W, At W t a → Calls Tryz.prog 60 #[.agg #[.pointer a], .int .i64 (m : Int)] W fun e w' => e = .returned (.tuple #[.agg #[.int .i64 ps, .int .i64 po, .int .i64 pl, .int .i64 pn], .int .i64 0]) ∧ Below W.heap.size W w') := fun W hW =>
    (Get_yes t a m W (by have := hm.out; omega) hf.out.2 hW).mono fun e w' ⟨s1, o1, n1, k1, h1, h2, h3⟩ => by
      rw [hl.out] at h1
      cases h1
      exact ⟨h2, h3⟩
  have hmb : m ≤ 1048576 := by have := hm.out; have := hf.out.2; omega
  have HJn : Hid (∀ W, Calls Tryz.prog 118 #[.agg #[.int .i64 ps, .int .i64 po, .int .i64 pl], .agg #[.int .i64 s, .int .i64 o, .int .i64 l]] W fun e w' => e = .returned (.tuple #[.agg #[.int .i64 ps, .int .i64 po, .int .i64 (pl + l)], .bool true]) ∧ Below W.heap.size W w') := fun W => Ab.joins_yes ps po pl s o l W hj
  have HSp : Hid (∀ W, At W t a → Calls Tryz.prog 77 #[.agg #[.pointer a], .int .i64 (m : Int)] W fun e w' => ∃ x y, e = .returned (.tuple #[.agg #[.pointer x], .agg #[.pointer y], .int .i64 0]) ∧ At w' (Tr.splitT t m).1 x ∧ At w' (Tr.splitT t m).2 y ∧ Below W.heap.size W w') := fun W hW => Split_yes t a m W (show m ≤ t.size from by have := hm.out; omega) hf hw hW
  go_enter Tryz.func75, Tryz.ntmps75
  go_wp2_with (first
    | (go_at_call 117; refine (HL.out _ (h.out.keep HJ.out.below)).mono ?_; rintro e w9 ⟨rfl, hw9⟩; have J9 := hid (HJ.out.call (bAlloc (Below.refl _ _) (.cells #[.pointer a] 53))); rw [← hw9] at J9; clear c0 c1 c2 c3 c4 hw9 hW0; obtain ⟨c0, c1, c2, c3, c4⟩ := J9.out.cells)
    | (go_at_call 60; refine (HG.out _ (h.out.keep J9.out.below)).mono ?_; rintro e w8 ⟨rfl, hb8⟩; have J8 := hid ((J9.out.call hb8).call (bAlloc (Below.refl _ _) (.cells #[.int .i64 ps, .int .i64 po, .int .i64 pl, .int .i64 pn] 59))); have P8 := hid (World.alloc_heap_new w8 (.cells #[.int .i64 ps, .int .i64 po, .int .i64 pl, .int .i64 pn] 59)); clear c0 c1 c2 c3 c4 hb8; obtain ⟨c0, c1, c2, c3, c4⟩ := J8.out.cells)
    | (go_at_call 118; refine (HJn.out _).mono ?_; rintro e w7 ⟨rfl, hb7⟩; have J7 := hid ((J8.out.call hb7).call (bAlloc (Below.refl _ _) (.cells #[.int .i64 ps, .int .i64 po, .int .i64 (pl + l)] 57))); have P7 := hid ((Below.heap_alloc w7 (.cells #[.int .i64 ps, .int .i64 po, .int .i64 (pl + l)] 57) _ (sh_lt ((hb7.block _ (sh_lt P8.out)).trans P8.out))).trans ((hb7.block _ (sh_lt P8.out)).trans P8.out)); clear c0 c1 c2 c3 c4 hb7; obtain ⟨c0, c1, c2, c3, c4⟩ := J7.out.cells; have Q7 := hid (World.alloc_heap_new w7 (.cells #[.int .i64 ps, .int .i64 po, .int .i64 (pl + l)] 57)))
    | (go_at_call 77; refine (HSp.out _ (h.out.keep J7.out.below)).mono ?_; rintro e w5 ⟨x5, y5, rfl, hx5, hy5, hb5⟩; have J5 := hid (J7.out.call hb5); have X5 := hid hx5; have P5 := hid ((hb5.block _ (sh_lt P7.out)).trans P7.out); have Q5 := hid ((hb5.block _ (sh_lt Q7.out)).trans Q7.out); clear c0 c1 c2 c3 c4 hb5 hx5 hy5))
  have J4 := hid (J5.out.call (bAA w5 (.cells #[.pointer x5] 53) (.cells #[.pointer y5] 53)))
  have X4 := hid (X5.out.keep (bAA w5 (.cells #[.pointer x5] 53) (.cells #[.pointer y5] 53)))
  have P4 := hid (((bAA w5 (.cells #[.pointer x5] 53) (.cells #[.pointer y5] 53)).block _ (sh_lt P5.out)).trans P5.out)
  have Q4 := hid (((bAA w5 (.cells #[.pointer x5] 53) (.cells #[.pointer y5] 53)).block _ (sh_lt Q5.out)).trans Q5.out)
  have R4 := hid ((Below.heap_alloc (w5.alloc (.cells #[.pointer x5] 53)) (.cells #[.pointer y5] 53) w5.heap.size (by simp)).trans (World.alloc_heap_new w5 (.cells #[.pointer x5] 53)))
  generalize (w5.alloc (.cells #[.pointer x5] 53)).alloc (.cells #[.pointer y5] 53) = w4 at *
  obtain ⟨c0, c1, c2, c3, c4⟩ := J4.out.cells
  obtain ⟨d0, d1, ⟨d2, d3, d4, d5⟩, d6⟩ := J4.out.frees
  obtain ⟨e0, e1, e2, e3⟩ := four_cells P4.out
  obtain ⟨f0, f1, f2⟩ := three_cells Q4.out
  obtain ⟨g0, g1⟩ := box_cell R4.out
  have n5 : w.heap.size + 1 + 1 + 1 < w5.heap.size := sh_lt J5.out.b3
  have n8 : ¬ (w8.heap.size = w.heap.size + 1 + 1) := fun e => by have a := P5.out; rw [e, J5.out.b2] at a; cases a
  have n7 : ¬ (w7.heap.size = w.heap.size + 1 + 1) := fun e => by have a := Q5.out; rw [e, J5.out.b2] at a; cases a
  have n6 : ¬ (w5.heap.size = w.heap.size + 1 + 1) := by omega
  generalize w7.heap.size = B7 at *
  generalize w8.heap.size = B8 at *
  generalize w5.heap.size = B5 at *
  obtain ⟨F1, F2⟩ := J4.out.fin x5 (.pointer x5) (.int .i64 ps) (.int .i64 po) (.int .i64 (pl + l)) (.int .i64 (pn + n)) X4.out
  have H1 := hid F1
  have H2 := hid F2
  clear F1 F2
  go_region
  go_wp2
  exact bodyPost_ret (v := .tuple #[.agg #[.pointer x5], .agg #[.int .i64 ps, .int .i64 po, .int .i64 (pl + l), .int .i64 (pn + n)], .bool true]) (by simp [results, Tryz.results75, go_sem, d0, d2, d3, d4, d5]) rfl ⟨x5, rfl, H1.out.drew, H2.out.drew⟩

/-- How a piece is put to the end of a tree. -/
def JoinR (t : Tr) (p : Pc) (T : Tr) (q : Pc) (b : Bool) : Prop :=
  (b = false ∧ T = t ∧ q = p ∧ ∀ m r, m + 1 = t.size → t.list[m]? = some r → Ab.jnB r.s r.o r.l p.s p.o p.l = false) ∨
  (b = true ∧ ∃ m r, m + 1 = t.size ∧ t.list[m]? = some r ∧ Ab.jnB r.s r.o r.l p.s p.o p.l = true ∧ T = (Tr.splitT t m).1 ∧ q = bothP r p)

theorem joinLast_any (t : Tr) (a : Option Addr) (p : Pc) (w : World) (h : At w t a) (hf : t.fine) (hw : t.whole) (h1 : -9223372036854775808 ≤ p.l) (h2 : p.l ≤ 9223372036854775807) (hn : 0 ≤ p.n ∧ p.n ≤ 4294967296) :
    Calls Tryz.prog 75 #[.agg #[.pointer a], p.v] w fun e w' => ∃ T q b, JoinR t p T q b ∧ JlGave w T q b e w' := by
  obtain ⟨s, o, l, n⟩ := p
  rcases Nat.eq_zero_or_pos t.size with h0 | h0
  · exact (joinLast_nil t a s o l n w (hid h) (hid h0) h1 h2).mono fun e w' k => ⟨_, _, _, .inl ⟨rfl, rfl, rfl, fun m r hm => by omega⟩, k⟩
  · obtain ⟨m, hm⟩ : ∃ m, m + 1 = t.size := ⟨t.size - 1, by omega⟩
    have hlt : m < t.list.length := by have := t.size_list; omega
    obtain ⟨⟨ps, po, pl, pn⟩, hr⟩ : ∃ r, t.list[m]? = some r := ⟨_, List.getElem?_eq_getElem hlt⟩
    have hfit := ((Tr.fine_list t).1 hf).1 _ (List.mem_of_getElem? hr)
    simp only [Pc.fit] at hfit
    cases hj : Ab.jnB ps po pl s o l with
    | false => exact (joinLast_no t a m ps po pl pn s o l n w (hid h) (hid hm) (hid hf) (hid hr) h1 h2 (by omega) (by omega) hj).mono fun e w' k => ⟨_, _, _, .inl ⟨rfl, rfl, rfl, fun m' r hm' hr' => by
        obtain rfl : m' = m := by omega
        rw [hr] at hr'
        cases hr'
        exact hj⟩, k⟩
    | true => exact (joinLast_yes t a m ps po pl pn s o l n w (hid h) (hid hm) (hid hf) (hid hr) h1 h2 (by omega) (by omega) hj (hid hw) ⟨by omega, by omega⟩ hn).mono fun e w' k => ⟨_, _, _, .inr ⟨rfl, m, _, hm, hr, hj, rfl, rfl⟩, k⟩

end Go.Proofs.YtmhpeppbhjpkiaaGreat

/- A sheet's worlds: what its changing calls leave. -/
namespace Go.Proofs.YtmhpeppbhjpkiaaGreat
open Go.RowKit

/-- A row lies on where its block does. -/
theorem own_same {A B : World} {base e size n : Nat} {v : Value} {xs : List Value} (h : A.ownsRow base e size v n xs) (hk : ∀ k, v.ownBlock = some k → k < A.heap.size → B.heap[k]? = A.heap[k]?) : B.ownsRow base e size v n xs := by
  obtain ⟨h1, h2⟩ := h
  refine ⟨h1, ?_⟩
  rcases h2 with h2 | ⟨g, cap, cur, e1, e2, e3, e4⟩
  · exact .inl h2
  · refine .inr ⟨g, cap, cur, e1, e2, ?_, e4⟩
    rw [hk g (by rw [e1]; rfl) (sh_lt e3)]
    exact e3

/-- All blocks of w but the sheet's, its buffer's and the row of what was added lie as they lay. -/
structure Chg (w w' : World) (sb bb : Nat) (row : Option Nat) : Prop where
  os : w'.os = w.os
  tape : w'.tape = w.tape
  output : w'.output = w.output
  size : w.heap.size ≤ w'.heap.size
  block : ∀ k, k < w.heap.size → k ≠ sb → k ≠ bb → some k ≠ row → w'.heap[k]? = w.heap[k]?

theorem Chg.of_below {w w' : World} (h : Below w.heap.size w w') (sb bb : Nat) (row : Option Nat) : Chg w w' sb bb row := ⟨h.os, h.tape, h.output, h.size, fun k hk _ _ _ => h.block k hk⟩
theorem Chg.below {w w' w'' : World} {sb bb : Nat} {row : Option Nat} (h : Chg w w' sb bb row) (hb : Below w'.heap.size w' w'') : Chg w w'' sb bb row :=
  ⟨hb.os.trans h.os, hb.tape.trans h.tape, hb.output.trans h.output, Nat.le_trans h.size hb.size, fun k hk h1 h2 h3 => (hb.block k (Nat.lt_of_lt_of_le hk h.size)).trans (h.block k hk h1 h2 h3)⟩
theorem Chg.set {w w' : World} {sb bb : Nat} {row : Option Nat} (h : Chg w w' sb bb row) {b : Nat} (hb : b = sb ∨ w.heap.size ≤ b) (i : Nat) (v : Value) : Chg w (w'.setCell ⟨b, i, none⟩ v) sb bb row :=
  ⟨h.os, h.tape, h.output, by show w.heap.size ≤ (w'.heap.modify _ _).size; rw [Array.size_modify]; exact h.size, fun k hk h1 h2 h3 => (Below.heap_setCell _ _ _ _ (by show k ≠ b; rcases hb with rfl | hb <;> omega)).trans (h.block k hk h1 h2 h3)⟩

/-- A sheet in memory. -/
structure Sh (W : World) (base sb bb : Nat) (vo va : Value) (O A : List UInt8) (t : Tr) (a : Option Addr) (e : Int) : Prop where
  lo : base ≤ sb
  here : W.heap[sb]? = some (.cells #[.pointer (some ⟨bb, 0, none⟩), .pointer a, .int .i64 e] 55 (0, 0))
  buf : Ab.BufAt W base bb vo va O A
  tree : At W t a

theorem Sh.shb {W : World} {base sb bb : Nat} {vo va : Value} {O A : List UInt8} {t : Tr} {a : Option Addr} {e : Int} (h : Sh W base sb bb vo va O A t a e) : ShB W base sb (some ⟨bb, 0, none⟩) (.pointer a) (.int .i64 e) O A := ⟨h.here, .inr ⟨bb, vo, va, rfl, h.buf⟩⟩
theorem Sh.sht {W : World} {base sb bb : Nat} {vo va : Value} {O A : List UInt8} {t : Tr} {a : Option Addr} {e : Int} (h : Sh W base sb bb vo va O A t a e) : ShT W (some ⟨sb, 0, none⟩) a e := .inr ⟨sb, _, rfl, h.here⟩
theorem Sh.keep {W W' : World} {base sb bb : Nat} {vo va : Value} {O A : List UInt8} {t : Tr} {a : Option Addr} {e : Int} (h : Sh W base sb bb vo va O A t a e) (hb : Below W.heap.size W W') : Sh W' base sb bb vo va O A t a e :=
  ⟨h.lo, (hb.block sb (sh_lt h.here)).trans h.here, h.buf.keep hb, h.tree.keep hb⟩

/-- In the midst of putIn. -/
structure Pw (w W : World) (base sb bb g6 g7 : Nat) (vo va va0 : Value) (O A : List UInt8) (T U : Tr) (x y a : Option Addr) (e : Int) : Prop where
  chg : Chg w W sb bb va0.ownBlock
  here : W.heap[sb]? = some (.cells #[.pointer (some ⟨bb, 0, none⟩), .pointer a, .int .i64 e] 55 (0, 0))
  buf : Ab.BufAt W base bb vo va O A
  own : va.ownBlock = va0.ownBlock ∨ ∃ k, va.ownBlock = some k ∧ w.heap.size ≤ k
  b6 : W.heap[g6]? = some (.cells #[.pointer x] 53 (0, 0))
  b7 : W.heap[g7]? = some (.cells #[.pointer y] 53 (0, 0))
  l6 : w.heap.size ≤ g6
  l7 : w.heap.size ≤ g7
  n67 : g6 ≠ g7
  tx : At W T x
  uy : At W U y

theorem Pw.below {w W W' : World} {base sb bb g6 g7 : Nat} {vo va va0 : Value} {O A : List UInt8} {T U : Tr} {x y a : Option Addr} {e : Int} (h : Pw w W base sb bb g6 g7 vo va va0 O A T U x y a e) (hb : Below W.heap.size W W') : Pw w W' base sb bb g6 g7 vo va va0 O A T U x y a e :=
  ⟨h.chg.below hb, (hb.block _ (sh_lt h.here)).trans h.here, h.buf.keep hb, h.own, (hb.block _ (sh_lt h.b6)).trans h.b6, (hb.block _ (sh_lt h.b7)).trans h.b7, h.l6, h.l7, h.n67, h.tx.keep hb, h.uy.keep hb⟩

theorem Pw.shb {w W : World} {base sb bb g6 g7 : Nat} {vo va va0 : Value} {O A : List UInt8} {T U : Tr} {x y a : Option Addr} {e : Int} (h : Pw w W base sb bb g6 g7 vo va va0 O A T U x y a e) : ShB W base sb (some ⟨bb, 0, none⟩) (.pointer a) (.int .i64 e) O A := ⟨h.here, .inr ⟨bb, vo, va, rfl, h.buf⟩⟩

/-- A block that is no row of bytes and not the buffer's lies on behind Add. -/
theorem touch_same {W W' : World} {base bb : Nat} {vo va : Value} {O A : List UInt8} (hb : Ab.BufAt W base bb vo va O A) (ht : Ab.Touch W W' bb va.ownBlock) {k : Nat} {cs : Array Value} {t : Nat} (hk : W.heap[k]? = some (.cells cs t (0, 0))) (h1 : t ≠ 94) (h2 : t ≠ 5) : W'.heap[k]? = some (.cells cs t (0, 0)) := by
  refine (ht.block k (sh_lt hk) (fun e => ?_) (fun e => ?_)).trans hk
  · subst e
    rw [hb.here] at hk
    cases hk
    exact h1 rfl
  · exact Ab.own_ne hb.added hk h2 e

theorem Pw.touch {w W W' : World} {base sb bb g6 g7 : Nat} {vo va va' va0 : Value} {O A A' : List UInt8} {T U : Tr} {x y a : Option Addr} {e : Int} (h : Pw w W base sb bb g6 g7 vo va va0 O A T U x y a e) (hv : va = va0) (hb : Ab.BufAt W' base bb vo va' O A') (ht : Ab.Touch W W' bb va.ownBlock) (ho : va'.ownBlock = va.ownBlock ∨ ∃ k, va'.ownBlock = some k ∧ W.heap.size ≤ k) :
    Pw w W' base sb bb g6 g7 vo va' va0 O A' T U x y a e := by
  subst hv
  have N : Nods W W' := fun b cs hb' => touch_same h.buf ht hb' (by decide) (by decide)
  refine ⟨⟨ht.os.trans h.chg.os, ht.tape.trans h.chg.tape, ht.output.trans h.chg.output, Nat.le_trans h.chg.size ht.size, fun k hk h1 h2 h3 => (ht.block k (Nat.lt_of_lt_of_le hk h.chg.size) h2 h3).trans (h.chg.block k hk h1 h2 h3)⟩, touch_same h.buf ht h.here (by decide) (by decide), hb, ?_, touch_same h.buf ht h.b6 (by decide) (by decide), touch_same h.buf ht h.b7 (by decide) (by decide), h.l6, h.l7, h.n67, N.at h.tx, N.at h.uy⟩
  rcases ho with ho | ⟨k, h1, h2⟩
  · exact .inl ho
  · exact .inr ⟨k, h1, Nat.le_trans h.chg.size h2⟩

theorem Pw.cells {w W : World} {base sb bb g6 g7 : Nat} {vo va va0 : Value} {O A : List UInt8} {T U : Tr} {x y a : Option Addr} {e : Int} (h : Pw w W base sb bb g6 g7 vo va va0 O A T U x y a e) :
    W.cell? ⟨g6, 0, none⟩ = some (.pointer x) ∧ W.cell? ⟨sb, 0, none⟩ = some (.pointer (some ⟨bb, 0, none⟩)) := ⟨(box_cell h.b6).1, (sh_cells h.here).1⟩

/-- Two boxes' stores, the tree's and the piece's. -/
theorem Pw.set6 {w W : World} {base sb bb g6 g7 : Nat} {vo va va0 : Value} {O A : List UInt8} {T U T' : Tr} {x x' y a : Option Addr} {e : Int} (h : Pw w W base sb bb g6 g7 vo va va0 O A T U x y a e) (hT : At W T' x') : Pw w (W.setCell ⟨g6, 0, none⟩ (.pointer x')) base sb bb g6 g7 vo va va0 O A T' U x' y a e := by
  have N : ∀ (k : Nat) (cs : Array Value) (t : Nat), W.heap[k]? = some (Obj.cells cs t (0, 0)) → t ≠ 53 → (W.setCell ⟨g6, 0, none⟩ (.pointer x')).heap[k]? = some (.cells cs t (0, 0)) := fun k cs t hk ht => (Below.heap_setCell _ _ _ _ (fun e => by change k = g6 at e; subst e; rw [h.b6] at hk; cases hk; exact ht rfl)).trans hk
  have NN : Nods W (W.setCell ⟨g6, 0, none⟩ (.pointer x')) := fun b cs hb => N b cs _ hb (by decide)
  exact ⟨h.chg.set (.inr h.l6) _ _, N _ _ _ h.here (by decide), h.buf.grown (Ab.grown_setCell _ _ _) (fun e => by have := (Option.some.inj e); change bb = g6 at this; subst this; have := h.b6; rw [h.buf.here] at this; cases this)
      (by
        cases hv : vo.ownBlock with
        | none => exact .inl rfl
        | some k => exact .inr fun e => Ab.own_ne h.buf.orig h.b6 (by decide) (by rw [hv, e]))
      (by
        cases hv : va.ownBlock with
        | none => exact .inl rfl
        | some k => exact .inr fun e => Ab.own_ne h.buf.added h.b6 (by decide) (by rw [hv, e])), h.own, box_set h.b6 _, (Below.heap_setCell _ _ _ _ (fun e => h.n67 e.symm)).trans h.b7, h.l6, h.l7, h.n67, NN.at hT, NN.at h.uy⟩

end Go.Proofs.YtmhpeppbhjpkiaaGreat

