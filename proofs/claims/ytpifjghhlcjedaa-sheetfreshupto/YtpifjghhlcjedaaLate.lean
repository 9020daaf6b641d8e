/- A region that draws its order, whose last operations store where its loads read: a condition on the world that holds up to the first such store. -/
import Derived.OrdersHeld
import Derived.RegionTactic
import Derived.Test.YtpifjghhlcjedaaSht
namespace Go.Proofs.Ytpifjghhlcjedaa
open Go Go.RowKit

section
variable {P : Program} {ops : Array Oper} {Q : Exit → Act → World → Prop} {md : Region.Mode}

/-- Whatever has come up, what it waits for has. -/
def Shut (md : Region.Mode) (ops : Array Oper) (listed : Array Bool) : Prop :=
  ∀ j oj, ops[j]? = some oj → listed.getD j false = true → ∀ e ∈ oj.after, Region.binds md e = true → listed.getD e.on false = true

/-- Every order from here on; S holds behind each operation ahead of number n0. -/
def wpLate (P : Program) (md : Region.Mode) (ops : Array Oper) (Q : Exit → Act → World → Prop) (S : World → Prop) (n0 : Nat) : Nat → Array Bool → Act → World → Prop
  | 0, listed, a, w => Region.ready md ops listed = [] ∧ Q .normal a w
  | fuel + 1, listed, a, w =>
    (Region.ready md ops listed = [] → Q .normal a w) ∧
    ∀ i ∈ Region.ready md ops listed, wpOp P ops Q i (fun a' w' => (i ≠ n0 → listed.getD n0 false = false → S w') ∧ wpLate P md ops Q S n0 fuel (listed.setIfInBounds i true) a' w') a w

theorem wpAny_of_late {S : World → Prop} {n0 : Nat} : ∀ (fuel : Nat) (listed : Array Bool) (a : Act) (w : World), wpLate P md ops Q S n0 fuel listed a w → wpAny P md ops Q fuel listed a w
  | 0, _, _, _, h => h
  | fuel + 1, _, _, _, h => ⟨h.1, fun i hi => wpOp_mono (fun a' w' h' => wpAny_of_late fuel _ a' w' h'.2) (h.2 i hi)⟩

theorem Shut.set {listed : Array Bool} {i : Nat} (h : Shut md ops listed) (hr : i ∈ Region.ready md ops listed) : Shut md ops (listed.setIfInBounds i true) := by
  intro j oj hj hl e he hb
  by_cases hij : i = j
  · subst hij
    obtain ⟨_, o, ho, hall⟩ := mem_ready.1 hr
    rw [hj] at ho
    cases ho
    exact getD_set_true (hall e he hb)
  · rw [getD_set_ne false hij] at hl
    exact getD_set_true (h j oj hj hl e he hb)

theorem not_listed {listed : Array Bool} {i : Nat} (h : listed.getD i true = false) : listed.getD i false = false := by
  rcases Nat.lt_or_ge i listed.size with h' | h'
  · simpa [h'] using h
  · simp [Array.getElem?_eq_none h'] at h

theorem wpLate_first {S : World → Prop} {n0 i : Nat} {oi : Oper} {v : Value} (hi : ops[i]? = some oi) (hsel : ∀ (j : Nat) (o : Oper) cs b, ops[j]? = some o → o.op ≠ .select cs b)
    (hQ : ∀ c a w, Q (.panic c) (a.put oi.dst v) w → Q (.panic c) a w)
    (hdep : ∀ listed, Shut md ops listed → n0 ∈ Region.ready md ops listed → listed.getD i false = true) :
    ∀ (fuel : Nat) (listed : Array Bool) (a : Act) (w : World),
      (∀ j oj, ops[j]? = some oj → j ≠ i → listed.getD j true = false → (∀ e ∈ oj.after, Region.binds md e = true → e.on ≠ i) → oi.apart ops oj = true) →
      i ∈ Region.ready md ops listed → Shut md ops listed → listed.getD n0 false = false → YieldsIf P ops S oi v a → S w →
      wpLate P md ops Q S n0 fuel (listed.setIfInBounds i true) (a.put oi.dst v) w → wpLate P md ops Q S n0 (fuel + 1) listed a w := by
  intro fuel
  induction fuel with
  | zero =>
    intro listed a w _ hr _ _ hy hS H
    refine ⟨fun h => (by rw [h] at hr; cases hr), fun j hj => ?_⟩
    by_cases hji : j = i
    · subst hji; exact hy.wpOp hi hS ⟨fun _ _ => hS, H⟩
    · have := ready_mono hj hji
      rw [H.1] at this
      cases this
  | succ fuel ih =>
    intro listed a w hfree hr hsh hl0 hy hS H
    refine ⟨fun h => (by rw [h] at hr; cases hr), fun j hj => ?_⟩
    by_cases hji : j = i
    · subst hji; exact hy.wpOp hi hS ⟨fun _ _ => hS, H⟩
    · have h1 := H.2 j (ready_mono hj hji)
      obtain ⟨hjun, oj, hoj, hall⟩ := mem_ready.1 hj
      have hin := not_listed (mem_ready.1 hr).1
      have hnot : ∀ e ∈ oj.after, Region.binds md e = true → e.on ≠ i := fun e he hb heq => by
        have h1 := hall e he hb
        rw [heq, hin] at h1
        cases h1
      have hjn : j ≠ n0 := fun e => by
        subst e
        have := hdep listed hsh hj
        rw [hin] at this
        cases this
      have hinn : i ≠ n0 := fun e => by
        subst e
        have := hdep listed hsh hr
        rw [hin] at this
        cases this
      have h2 := wpOp_putIf hoj (hfree j oj hoj hji hjun hnot) (fun cs b => hsel i oi cs b hi) (fun cs b => hsel j oj cs b hoj) hQ hy h1
      have hfree' : ∀ k ok, ops[k]? = some ok → k ≠ i → (listed.setIfInBounds j true).getD k true = false →
          (∀ e ∈ ok.after, Region.binds md e = true → e.on ≠ i) → oi.apart ops ok = true := fun k ok hk hki hun hno => by
        refine hfree k ok hk hki ?_ hno
        by_cases hjk : j = k
        · subst hjk; exact hjun
        · rw [getD_set_ne true hjk] at hun; exact hun
      refine wpOp_mono (fun a' w' h3 => ?_) h2
      have hS' : S w' := h3.2.1 hjn (by rw [getD_set_ne false hinn]; exact hl0)
      refine ⟨fun _ _ => hS', ih (listed.setIfInBounds j true) a' w' hfree' (ready_mono hr (Ne.symm hji)) (hsh.set hj) (by rw [getD_set_ne false hjn]; exact hl0) h3.1 hS' ?_⟩
      rw [Array.setIfInBounds_comm _ _ hji]
      exact h3.2.2

/-- Number n0 waits for i, or for what waits for i. -/
def waitsFor (md : Region.Mode) (ops : Array Oper) (n0 i : Nat) : Bool :=
  match ops[n0]? with
  | none => false
  | some o => o.after.any fun e => Region.binds md e && (e.on == i || match ops[e.on]? with
    | none => false
    | some o2 => o2.after.any fun e2 => Region.binds md e2 && e2.on == i)

theorem waits_dep {n0 i : Nat} (h : waitsFor md ops n0 i = true) : ∀ listed, Shut md ops listed → n0 ∈ Region.ready md ops listed → listed.getD i false = true := by
  intro listed hsh hr
  obtain ⟨_, o, ho, hall⟩ := mem_ready.1 hr
  simp only [waitsFor, ho, Array.any_eq_true] at h
  obtain ⟨k, hk, he⟩ := h
  simp only [Bool.and_eq_true, Bool.or_eq_true, beq_iff_eq] at he
  obtain ⟨hb, he⟩ := he
  have h1 := hall _ (Array.getElem_mem hk) hb
  rcases he with he | he
  · rw [he] at h1; exact h1
  · cases ho2 : ops[o.after[k].on]? with
    | none => simp [ho2] at he
    | some o2 =>
      simp only [ho2, Array.any_eq_true] at he
      obtain ⟨k2, hk2, he2⟩ := he
      simp only [Bool.and_eq_true, beq_iff_eq] at he2
      have := hsh _ _ ho2 h1 _ (Array.getElem_mem hk2) he2.1
      rw [he2.2] at this
      exact this

/-- Take number i first. -/
theorem wpLate_take {S : World → Prop} {n0 i : Nat} {oi : Oper} {v : Value} {fuel : Nat} {listed : Array Bool} {a : Act} {w : World} (hi : ops[i]? = some oi)
    (hs : Region.noSelect ops = true) (hf : Region.free md ops listed i = true) (hr : (Region.ready md ops listed).contains i = true) (hw : waitsFor md ops n0 i = true)
    (hsh : Shut md ops listed) (hl0 : listed.getD n0 false = false) (hQ : ∀ c a w, Q (.panic c) (a.put oi.dst v) w → Q (.panic c) a w) (hy : YieldsIf P ops S oi v a) (hS : S w)
    (h : Shut md ops (listed.setIfInBounds i true) → wpLate P md ops Q S n0 fuel (listed.setIfInBounds i true) (a.put oi.dst v) w) : wpLate P md ops Q S n0 (fuel + 1) listed a w :=
  wpLate_first hi (Region.noSelect_spec hs) hQ (waits_dep hw) fuel listed a w (Region.free_spec hi hf) (by simpa using hr) hsh hl0 hy hS (h (hsh.set (by simpa using hr)))

theorem shut_start (n : Nat) : Shut md ops (Array.replicate n false) := by
  intro j oj _ hl
  rcases Nat.lt_or_ge j n with h | h
  · simp [h] at hl
  · simp [Array.getElem?_eq_none (show (Array.replicate n false).size ≤ j by simpa using h)] at hl

theorem wp_region_late {S : World → Prop} {n0 id : Nat} {a : Act} {w : World} (hm : P.follows .mixedOrders = true)
    (h : Shut .any ops (Array.replicate ops.size false) → wpLate P .any ops Q S n0 ops.size (Array.replicate ops.size false) a { w with drawn := w.drawn + 1 }) : (Code.region id ops true).wp P Q a w :=
  wp_region_any hm (wpAny_of_late _ _ _ _ (h (shut_start _)))

/-- One alone may come up. -/
theorem wpLate_one {S : World → Prop} {n0 i : Nat} {fuel : Nat} {listed : Array Bool} {a : Act} {w : World} (hr : Region.ready md ops listed = [i])
    (h : wpOp P ops Q i (fun a' w' => (i ≠ n0 → listed.getD n0 false = false → S w') ∧ wpLate P md ops Q S n0 fuel (listed.setIfInBounds i true) a' w') a w) : wpLate P md ops Q S n0 (fuel + 1) listed a w :=
  ⟨fun h0 => (by rw [hr] at h0; cases h0), by rw [hr]; intro j hj; obtain rfl : j = i := (by simpa using hj); exact h⟩

theorem wpLate_free {S : World → Prop} {n0 i : Nat} {oi : Oper} {v : Value} (hi : ops[i]? = some oi) (hsel : ∀ (j : Nat) (o : Oper) cs b, ops[j]? = some o → o.op ≠ .select cs b) (hin0 : i ≠ n0)
    (hQ : ∀ c a w, Q (.panic c) (a.put oi.dst v) w → Q (.panic c) a w) :
    ∀ (fuel : Nat) (listed : Array Bool) (a : Act) (w : World),
      (∀ j oj, ops[j]? = some oj → j ≠ i → listed.getD j true = false → (∀ e ∈ oj.after, Region.binds md e = true → e.on ≠ i) → oi.apart ops oj = true) →
      i ∈ Region.ready md ops listed → YieldsIf P ops (fun _ => True) oi v a → (listed.getD n0 false = false → S w) →
      wpLate P md ops Q S n0 fuel (listed.setIfInBounds i true) (a.put oi.dst v) w → wpLate P md ops Q S n0 (fuel + 1) listed a w := by
  intro fuel
  induction fuel with
  | zero =>
    intro listed a w _ hr hy hS H
    refine ⟨fun h => (by rw [h] at hr; cases hr), fun j hj => ?_⟩
    by_cases hji : j = i
    · subst hji; exact hy.wpOp hi trivial ⟨fun _ h0 => hS h0, H⟩
    · have := ready_mono hj hji
      rw [H.1] at this
      cases this
  | succ fuel ih =>
    intro listed a w hfree hr hy hS H
    refine ⟨fun h => (by rw [h] at hr; cases hr), fun j hj => ?_⟩
    by_cases hji : j = i
    · subst hji; exact hy.wpOp hi trivial ⟨fun _ h0 => hS h0, H⟩
    · have h1 := H.2 j (ready_mono hj hji)
      obtain ⟨hjun, oj, hoj, hall⟩ := mem_ready.1 hj
      have hin := not_listed (mem_ready.1 hr).1
      have hnot : ∀ e ∈ oj.after, Region.binds md e = true → e.on ≠ i := fun e he hb heq => by
        have h1 := hall e he hb
        rw [heq, hin] at h1
        cases h1
      have h2 := wpOp_putIf hoj (hfree j oj hoj hji hjun hnot) (fun cs b => hsel i oi cs b hi) (fun cs b => hsel j oj cs b hoj) hQ hy h1
      have hfree' : ∀ k ok, ops[k]? = some ok → k ≠ i → (listed.setIfInBounds j true).getD k true = false →
          (∀ e ∈ ok.after, Region.binds md e = true → e.on ≠ i) → oi.apart ops ok = true := fun k ok hk hki hun hno => by
        refine hfree k ok hk hki ?_ hno
        by_cases hjk : j = k
        · subst hjk; exact hjun
        · rw [getD_set_ne true hjk] at hun; exact hun
      refine wpOp_mono (fun a' w' h3 => ?_) h2
      refine ⟨fun hj0 hl0 => h3.2.1 hj0 (by rw [getD_set_ne false hin0]; exact hl0), ih (listed.setIfInBounds j true) a' w' hfree' (ready_mono hr (Ne.symm hji)) h3.1 (fun hl0 => ?_) ?_⟩
      · by_cases hj0 : j = n0
        · subst hj0
          exfalso
          have hjlt : j < listed.size := by
            rcases Nat.lt_or_ge j listed.size with h' | h'
            · exact h'
            · simp [Array.getElem?_eq_none h'] at hjun
          simp [hjlt] at hl0
        · rw [getD_set_ne false hj0] at hl0
          exact h3.2.1 hj0 (by rw [getD_set_ne false hin0]; exact hl0)
      · rw [Array.setIfInBounds_comm _ _ hji]
        exact h3.2.2

/-- Take number i first: it yields its value in whatever world. -/
theorem wpLate_any {S : World → Prop} {n0 i : Nat} {oi : Oper} {v : Value} {fuel : Nat} {listed : Array Bool} {a : Act} {w : World} (hi : ops[i]? = some oi)
    (hs : Region.noSelect ops = true) (hf : Region.free md ops listed i = true) (hr : (Region.ready md ops listed).contains i = true) (hin0 : i ≠ n0)
    (hQ : ∀ c a w, Q (.panic c) (a.put oi.dst v) w → Q (.panic c) a w) (hy : YieldsIf P ops (fun _ => True) oi v a) (hS : listed.getD n0 false = false → S w)
    (h : wpLate P md ops Q S n0 fuel (listed.setIfInBounds i true) (a.put oi.dst v) w) : wpLate P md ops Q S n0 (fuel + 1) listed a w :=
  wpLate_free hi (Region.noSelect_spec hs) hin0 hQ fuel listed a w (Region.free_spec hi hf) (by simpa using hr) hy hS h

/-- Two may come up. -/
theorem wpLate_two {S : World → Prop} {n0 i j : Nat} {oi oj : Oper} {fuel : Nat} {listed : Array Bool} {a : Act} {w : World} (hr : Region.ready md ops listed = [i, j]) (hi : ops[i]? = some oi) (hj : ops[j]? = some oj) (hwi : Region.wanted oi (yielded ops a.tmps) = true) (hwj : Region.wanted oj (yielded ops a.tmps) = true)
    (h1 : ∀ K : Act → World → Prop, (∀ a' w', (i ≠ n0 → listed.getD n0 false = false → S w') → wpLate P md ops Q S n0 fuel (listed.setIfInBounds i true) a' w' → K a' w') → Oper.wp P oi a w K Q)
    (h2 : ∀ K : Act → World → Prop, (∀ a' w', (j ≠ n0 → listed.getD n0 false = false → S w') → wpLate P md ops Q S n0 fuel (listed.setIfInBounds j true) a' w' → K a' w') → Oper.wp P oj a w K Q) : wpLate P md ops Q S n0 (fuel + 1) listed a w := by
  refine ⟨fun h0 => (by rw [hr] at h0; cases h0), ?_⟩
  rw [hr]
  intro k hk
  have run : ∀ {i : Nat} {o : Oper} {K : Act → World → Prop}, ops[i]? = some o → Region.wanted o (yielded ops a.tmps) = true → Oper.wp P o a w K Q → wpOp P ops Q i K a w := fun hi hw h => by
    unfold wpOp
    simp only [hi, hw, if_true]
    exact .inl h
  rcases List.mem_cons.1 hk with rfl | hk
  · exact run hi hwi (h1 _ fun _ _ a b => ⟨a, b⟩)
  · obtain rfl : k = j := (by simpa using hk)
    exact run hj hwj (h2 _ fun _ _ a b => ⟨a, b⟩)

theorem wpOp_run {i : Nat} {o : Oper} {a : Act} {w : World} {K : Act → World → Prop} (hi : ops[i]? = some o) (hw : Region.wanted o (yielded ops a.tmps) = true) (h : Oper.wp P o a w K Q) : wpOp P ops Q i K a w := by
  unfold wpOp
  simp only [hi, hw, if_true]
  exact .inl h

theorem wpLate_step {S : World → Prop} {n0 i : Nat} {o : Oper} {fuel : Nat} {listed : Array Bool} {a : Act} {w : World} (hr : Region.ready md ops listed = [i]) (hi : ops[i]? = some o) (hw : Region.wanted o (yielded ops a.tmps) = true)
    (h : ∀ K : Act → World → Prop, (∀ a' w', (i ≠ n0 → listed.getD n0 false = false → S w') → wpLate P md ops Q S n0 fuel (listed.setIfInBounds i true) a' w' → K a' w') → Oper.wp P o a w K Q) : wpLate P md ops Q S n0 (fuel + 1) listed a w :=
  wpLate_one hr (wpOp_run hi hw (h _ fun _ _ h1 h2 => ⟨h1, h2⟩))

theorem wpLate_done {S : World → Prop} {n0 : Nat} {listed : Array Bool} {a : Act} {w : World} (hr : Region.ready md ops listed = []) (h : Q .normal a w) : wpLate P md ops Q S n0 0 listed a w := ⟨hr, h⟩

end
end Go.Proofs.Ytpifjghhlcjedaa
