/- A region that draws its order, whose last operations store where its loads read: a condition on the world that holds up to the first such store. -/
import Derived.OrdersHeld
import Derived.RegionTactic
import Derived.Test.YtaahklapoppgaaaQm01
import Derived.Test.YtaahklapoppgaaaQm11
namespace Go.Proofs.Ytaahklapoppgaaa
open Go.RowKit

section
variable {P : Program} {ops : Array Oper} {Q : Exit → Act → World → Prop} {md : Region.Mode}

/-- Whatever has come up, what it waits for has. -/
def Shut (md : Region.Mode) (ops : Array Oper) (listed : Array Bool) : Prop :=
  ∀ j oj, ops[j]? = some oj → listed.getD j false = true → ∀ e ∈ oj.after, Region.binds md e = true → listed.getD e.on false = true

/-- Every order from here on; S holds behind each operation ahead of number n0. -/
def wpLate (P : Program) (md : Region.Mode) (ops : Array Oper) (Q : Exit → Act → World → Prop) (S : World → Prop) (n0 : Nat) : Nat → Array Bool → Act → World → Prop
  | 0, listed, a, w => Region.ready md ops listed = [] ∧ Q .normal a w
  | fuel + 1, listed, a, w =>
    (Region.ready md ops listed = [] → Q .normal a w) ∧
    ∀ i ∈ Region.ready md ops listed, wpOp P ops Q i (fun a' w' => (i ≠ n0 → listed.getD n0 false = false → S w') ∧ wpLate P md ops Q S n0 fuel (listed.setIfInBounds i true) a' w') a w

theorem wpAny_of_late {S : World → Prop} {n0 : Nat} : ∀ (fuel : Nat) (listed : Array Bool) (a : Act) (w : World), wpLate P md ops Q S n0 fuel listed a w → wpAny P md ops Q fuel listed a w
  | 0, _, _, _, h => h
  | fuel + 1, _, _, _, h => ⟨h.1, fun i hi => wpOp_mono (fun a' w' h' => wpAny_of_late fuel _ a' w' h'.2) (h.2 i hi)⟩

theorem Shut.set {listed : Array Bool} {i : Nat} (h : Shut md ops listed) (hr : i ∈ Region.ready md ops listed) : Shut md ops (listed.setIfInBounds i true) := by
  intro j oj hj hl e he hb
  by_cases hij : i = j
  · subst hij
    obtain ⟨_, o, ho, hall⟩ := mem_ready.1 hr
    rw [hj] at ho
    cases ho
    exact getD_set_true (hall e he hb)
  · rw [getD_set_ne false hij] at hl
    exact getD_set_true (h j oj hj hl e he hb)

theorem not_listed {listed : Array Bool} {i : Nat} (h : listed.getD i true = false) : listed.getD i false = false := by
  rcases Nat.lt_or_ge i listed.size with h' | h'
  · simpa [h'] using h
  · simp [Array.getElem?_eq_none h'] at h

theorem wpLate_first {S : World → Prop} {n0 i : Nat} {oi : Oper} {v : Value} (hi : ops[i]? = some oi) (hsel : ∀ (j : Nat) (o : Oper) cs b, ops[j]? = some o → o.op ≠ .select cs b)
    (hQ : ∀ c a w, Q (.panic c) (a.put oi.dst v) w → Q (.panic c) a w)
    (hdep : ∀ listed, Shut md ops listed → n0 ∈ Region.ready md ops listed → listed.getD i false = true) :
    ∀ (fuel : Nat) (listed : Array Bool) (a : Act) (w : World),
      (∀ j oj, ops[j]? = some oj → j ≠ i → listed.getD j true = false → (∀ e ∈ oj.after, Region.binds md e = true → e.on ≠ i) → oi.apart ops oj = true) →
      i ∈ Region.ready md ops listed → Shut md ops listed → listed.getD n0 false = false → YieldsIf P ops S oi v a → S w →
      wpLate P md ops Q S n0 fuel (listed.setIfInBounds i true) (a.put oi.dst v) w → wpLate P md ops Q S n0 (fuel + 1) listed a w := by
  intro fuel
  induction fuel with
  | zero =>
    intro listed a w _ hr _ _ hy hS H
    refine ⟨fun h => (by rw [h] at hr; cases hr), fun j hj => ?_⟩
    by_cases hji : j = i
    · subst hji; exact hy.wpOp hi hS ⟨fun _ _ => hS, H⟩
    · have := ready_mono hj hji
      rw [H.1] at this
      cases this
  | succ fuel ih =>
    intro listed a w hfree hr hsh hl0 hy hS H
    refine ⟨fun h => (by rw [h] at hr; cases hr), fun j hj => ?_⟩
    by_cases hji : j = i
    · subst hji; exact hy.wpOp hi hS ⟨fun _ _ => hS, H⟩
    · have h1 := H.2 j (ready_mono hj hji)
      obtain ⟨hjun, oj, hoj, hall⟩ := mem_ready.1 hj
      have hin := not_listed (mem_ready.1 hr).1
      have hnot : ∀ e ∈ oj.after, Region.binds md e = true → e.on ≠ i := fun e he hb heq => by
        have h1 := hall e he hb
        rw [heq, hin] at h1
        cases h1
      have hjn : j ≠ n0 := fun e => by
        subst e
        have := hdep listed hsh hj
        rw [hin] at this
        cases this
      have hinn : i ≠ n0 := fun e => by
        subst e
        have := hdep listed hsh hr
        rw [hin] at this
        cases this
      have h2 := wpOp_putIf hoj (hfree j oj hoj hji hjun hnot) (fun cs b => hsel i oi cs b hi) (fun cs b => hsel j oj cs b hoj) hQ hy h1
      have hfree' : ∀ k ok, ops[k]? = some ok → k ≠ i → (listed.setIfInBounds j true).getD k true = false →
          (∀ e ∈ ok.after, Region.binds md e = true → e.on ≠ i) → oi.apart ops ok = true := fun k ok hk hki hun hno => by
        refine hfree k ok hk hki ?_ hno
        by_cases hjk : j = k
        · subst hjk; exact hjun
        · rw [getD_set_ne true hjk] at hun; exact hun
      refine wpOp_mono (fun a' w' h3 => ?_) h2
      have hS' : S w' := h3.2.1 hjn (by rw [getD_set_ne false hinn]; exact hl0)
      refine ⟨fun _ _ => hS', ih (listed.setIfInBounds j true) a' w' hfree' (ready_mono hr (Ne.symm hji)) (hsh.set hj) (by rw [getD_set_ne false hjn]; exact hl0) h3.1 hS' ?_⟩
      rw [Array.setIfInBounds_comm _ _ hji]
      exact h3.2.2

/-- Number n0 waits for i, or for what waits for i. -/
def waitsFor (md : Region.Mode) (ops : Array Oper) (n0 i : Nat) : Bool :=
  match ops[n0]? with
  | none => false
  | some o => o.after.any fun e => Region.binds md e && (e.on == i || match ops[e.on]? with
    | none => false
    | some o2 => o2.after.any fun e2 => Region.binds md e2 && e2.on == i)

theorem waits_dep {n0 i : Nat} (h : waitsFor md ops n0 i = true) : ∀ listed, Shut md ops listed → n0 ∈ Region.ready md ops listed → listed.getD i false = true := by
  intro listed hsh hr
  obtain ⟨_, o, ho, hall⟩ := mem_ready.1 hr
  simp only [waitsFor, ho, Array.any_eq_true] at h
  obtain ⟨k, hk, he⟩ := h
  simp only [Bool.and_eq_true, Bool.or_eq_true, beq_iff_eq] at he
  obtain ⟨hb, he⟩ := he
  have h1 := hall _ (Array.getElem_mem hk) hb
  rcases he with he | he
  · rw [he] at h1; exact h1
  · cases ho2 : ops[o.after[k].on]? with
    | none => simp [ho2] at he
    | some o2 =>
      simp only [ho2, Array.any_eq_true] at he
      obtain ⟨k2, hk2, he2⟩ := he
      simp only [Bool.and_eq_true, beq_iff_eq] at he2
      have := hsh _ _ ho2 h1 _ (Array.getElem_mem hk2) he2.1
      rw [he2.2] at this
      exact this

/-- Take number i first. -/
theorem wpLate_take {S : World → Prop} {n0 i : Nat} {oi : Oper} {v : Value} {fuel : Nat} {listed : Array Bool} {a : Act} {w : World} (hi : ops[i]? = some oi)
    (hs : Region.noSelect ops = true) (hf : Region.free md ops listed i = true) (hr : (Region.ready md ops listed).contains i = true) (hw : waitsFor md ops n0 i = true)
    (hsh : Shut md ops listed) (hl0 : listed.getD n0 false = false) (hQ : ∀ c a w, Q (.panic c) (a.put oi.dst v) w → Q (.panic c) a w) (hy : YieldsIf P ops S oi v a) (hS : S w)
    (h : Shut md ops (listed.setIfInBounds i true) → wpLate P md ops Q S n0 fuel (listed.setIfInBounds i true) (a.put oi.dst v) w) : wpLate P md ops Q S n0 (fuel + 1) listed a w :=
  wpLate_first hi (Region.noSelect_spec hs) hQ (waits_dep hw) fuel listed a w (Region.free_spec hi hf) (by simpa using hr) hsh hl0 hy hS (h (hsh.set (by simpa using hr)))

theorem shut_start (n : Nat) : Shut md ops (Array.replicate n false) := by
  intro j oj _ hl
  rcases Nat.lt_or_ge j n with h | h
  · simp [h] at hl
  · simp [Array.getElem?_eq_none (show (Array.replicate n false).size ≤ j by simpa using h)] at hl

theorem wp_region_late {S : World → Prop} {n0 id : Nat} {a : Act} {w : World} (hm : P.follows .mixedOrders = true)
    (h : Shut .any ops (Array.replicate ops.size false) → wpLate P .any ops Q S n0 ops.size (Array.replicate ops.size false) a { w with drawn := w.drawn + 1 }) : (Code.region id ops true).wp P Q a w :=
  wp_region_any hm (wpAny_of_late _ _ _ _ (h (shut_start _)))

/-- One alone may come up. -/
theorem wpLate_one {S : World → Prop} {n0 i : Nat} {fuel : Nat} {listed : Array Bool} {a : Act} {w : World} (hr : Region.ready md ops listed = [i])
    (h : wpOp P ops Q i (fun a' w' => (i ≠ n0 → listed.getD n0 false = false → S w') ∧ wpLate P md ops Q S n0 fuel (listed.setIfInBounds i true) a' w') a w) : wpLate P md ops Q S n0 (fuel + 1) listed a w :=
  ⟨fun h0 => (by rw [hr] at h0; cases h0), by rw [hr]; intro j hj; obtain rfl : j = i := (by simpa using hj); exact h⟩

theorem wpLate_free {S : World → Prop} {n0 i : Nat} {oi : Oper} {v : Value} (hi : ops[i]? = some oi) (hsel : ∀ (j : Nat) (o : Oper) cs b, ops[j]? = some o → o.op ≠ .select cs b) (hin0 : i ≠ n0)
    (hQ : ∀ c a w, Q (.panic c) (a.put oi.dst v) w → Q (.panic c) a w) :
    ∀ (fuel : Nat) (listed : Array Bool) (a : Act) (w : World),
      (∀ j oj, ops[j]? = some oj → j ≠ i → listed.getD j true = false → (∀ e ∈ oj.after, Region.binds md e = true → e.on ≠ i) → oi.apart ops oj = true) →
      i ∈ Region.ready md ops listed → YieldsIf P ops (fun _ => True) oi v a → (listed.getD n0 false = false → S w) →
      wpLate P md ops Q S n0 fuel (listed.setIfInBounds i true) (a.put oi.dst v) w → wpLate P md ops Q S n0 (fuel + 1) listed a w := by
  intro fuel
  induction fuel with
  | zero =>
    intro listed a w _ hr hy hS H
    refine ⟨fun h => (by rw [h] at hr; cases hr), fun j hj => ?_⟩
    by_cases hji : j = i
    · subst hji; exact hy.wpOp hi trivial ⟨fun _ h0 => hS h0, H⟩
    · have := ready_mono hj hji
      rw [H.1] at this
      cases this
  | succ fuel ih =>
    intro listed a w hfree hr hy hS H
    refine ⟨fun h => (by rw [h] at hr; cases hr), fun j hj => ?_⟩
    by_cases hji : j = i
    · subst hji; exact hy.wpOp hi trivial ⟨fun _ h0 => hS h0, H⟩
    · have h1 := H.2 j (ready_mono hj hji)
      obtain ⟨hjun, oj, hoj, hall⟩ := mem_ready.1 hj
      have hin := not_listed (mem_ready.1 hr).1
      have hnot : ∀ e ∈ oj.after, Region.binds md e = true → e.on ≠ i := fun e he hb heq => by
        have h1 := hall e he hb
        rw [heq, hin] at h1
        cases h1
      have h2 := wpOp_putIf hoj (hfree j oj hoj hji hjun hnot) (fun cs b => hsel i oi cs b hi) (fun cs b => hsel j oj cs b hoj) hQ hy h1
      have hfree' : ∀ k ok, ops[k]? = some ok → k ≠ i → (listed.setIfInBounds j true).getD k true = false →
          (∀ e ∈ ok.after, Region.binds md e = true → e.on ≠ i) → oi.apart ops ok = true := fun k ok hk hki hun hno => by
        refine hfree k ok hk hki ?_ hno
        by_cases hjk : j = k
        · subst hjk; exact hjun
        · rw [getD_set_ne true hjk] at hun; exact hun
      refine wpOp_mono (fun a' w' h3 => ?_) h2
      refine ⟨fun hj0 hl0 => h3.2.1 hj0 (by rw [getD_set_ne false hin0]; exact hl0), ih (listed.setIfInBounds j true) a' w' hfree' (ready_mono hr (Ne.symm hji)) h3.1 (fun hl0 => ?_) ?_⟩
      · by_cases hj0 : j = n0
        · subst hj0
          exfalso
          have hjlt : j < listed.size := by
            rcases Nat.lt_or_ge j listed.size with h' | h'
            · exact h'
            · simp [Array.getElem?_eq_none h'] at hjun
          simp [hjlt] at hl0
        · rw [getD_set_ne false hj0] at hl0
          exact h3.2.1 hj0 (by rw [getD_set_ne false hin0]; exact hl0)
      · rw [Array.setIfInBounds_comm _ _ hji]
        exact h3.2.2

/-- Take number i first: it yields its value in whatever world. -/
theorem wpLate_any {S : World → Prop} {n0 i : Nat} {oi : Oper} {v : Value} {fuel : Nat} {listed : Array Bool} {a : Act} {w : World} (hi : ops[i]? = some oi)
    (hs : Region.noSelect ops = true) (hf : Region.free md ops listed i = true) (hr : (Region.ready md ops listed).contains i = true) (hin0 : i ≠ n0)
    (hQ : ∀ c a w, Q (.panic c) (a.put oi.dst v) w → Q (.panic c) a w) (hy : YieldsIf P ops (fun _ => True) oi v a) (hS : listed.getD n0 false = false → S w)
    (h : wpLate P md ops Q S n0 fuel (listed.setIfInBounds i true) (a.put oi.dst v) w) : wpLate P md ops Q S n0 (fuel + 1) listed a w :=
  wpLate_free hi (Region.noSelect_spec hs) hin0 hQ fuel listed a w (Region.free_spec hi hf) (by simpa using hr) hy hS h

/-- Two may come up. -/
theorem wpLate_two {S : World → Prop} {n0 i j : Nat} {oi oj : Oper} {fuel : Nat} {listed : Array Bool} {a : Act} {w : World} (hr : Region.ready md ops listed = [i, j]) (hi : ops[i]? = some oi) (hj : ops[j]? = some oj) (hwi : Region.wanted oi (yielded ops a.tmps) = true) (hwj : Region.wanted oj (yielded ops a.tmps) = true)
    (h1 : ∀ K : Act → World → Prop, (∀ a' w', (i ≠ n0 → listed.getD n0 false = false → S w') → wpLate P md ops Q S n0 fuel (listed.setIfInBounds i true) a' w' → K a' w') → Oper.wp P oi a w K Q)
    (h2 : ∀ K : Act → World → Prop, (∀ a' w', (j ≠ n0 → listed.getD n0 false = false → S w') → wpLate P md ops Q S n0 fuel (listed.setIfInBounds j true) a' w' → K a' w') → Oper.wp P oj a w K Q) : wpLate P md ops Q S n0 (fuel + 1) listed a w := by
  refine ⟨fun h0 => (by rw [hr] at h0; cases h0), ?_⟩
  rw [hr]
  intro k hk
  have run : ∀ {i : Nat} {o : Oper} {K : Act → World → Prop}, ops[i]? = some o → Region.wanted o (yielded ops a.tmps) = true → Oper.wp P o a w K Q → wpOp P ops Q i K a w := fun hi hw h => by
    unfold wpOp
    simp only [hi, hw, if_true]
    exact .inl h
  rcases List.mem_cons.1 hk with rfl | hk
  · exact run hi hwi (h1 _ fun _ _ a b => ⟨a, b⟩)
  · obtain rfl : k = j := (by simpa using hk)
    exact run hj hwj (h2 _ fun _ _ a b => ⟨a, b⟩)

theorem wpOp_run {i : Nat} {o : Oper} {a : Act} {w : World} {K : Act → World → Prop} (hi : ops[i]? = some o) (hw : Region.wanted o (yielded ops a.tmps) = true) (h : Oper.wp P o a w K Q) : wpOp P ops Q i K a w := by
  unfold wpOp
  simp only [hi, hw, if_true]
  exact .inl h

theorem wpLate_step {S : World → Prop} {n0 i : Nat} {o : Oper} {fuel : Nat} {listed : Array Bool} {a : Act} {w : World} (hr : Region.ready md ops listed = [i]) (hi : ops[i]? = some o) (hw : Region.wanted o (yielded ops a.tmps) = true)
    (h : ∀ K : Act → World → Prop, (∀ a' w', (i ≠ n0 → listed.getD n0 false = false → S w') → wpLate P md ops Q S n0 fuel (listed.setIfInBounds i true) a' w' → K a' w') → Oper.wp P o a w K Q) : wpLate P md ops Q S n0 (fuel + 1) listed a w :=
  wpLate_one hr (wpOp_run hi hw (h _ fun _ _ h1 h2 => ⟨h1, h2⟩))

theorem wpLate_done {S : World → Prop} {n0 : Nat} {listed : Array Bool} {a : Act} {w : World} (hr : Region.ready md ops listed = []) (h : Q .normal a w) : wpLate P md ops Q S n0 0 listed a w := ⟨hr, h⟩

end
end Go.Proofs.Ytaahklapoppgaaa

namespace Go.Proofs.Ytaahklapoppgaaa
open Go.RowKit

set_option maxRecDepth 8000
theorem xr (x : UInt8) : bits BinOp.xor IntKind.u8 (x.toNat : Int) 85 = ((x ^^^ 85).toNat : Int) := by
  have h : ∀ k : Fin 256, bits BinOp.xor IntKind.u8 ((UInt8.ofNat k.val).toNat : Int) 85 = (((UInt8.ofNat k.val) ^^^ 85).toNat : Int) := by decide +kernel
  have := h ⟨x.toNat, x.toNat_lt⟩
  simpa using this
theorem bv_set (Y : List UInt8) (i : Nat) (x : UInt8) : (bv Y).set i (.int .u8 (x.toNat : Int)) = bv (Y.set i x) := by
  unfold bv; rw [List.map_set]
/-- rows that are written over: what lies outside [w, hi) and is older than W0 lies on -/
structure Spw (w : World) (hi : Nat) (W0 W : World) (R : List Rw) : Prop where
  rws : Rws w W R
  kept : Kept w.heap.size hi W0 W
  blk : ∀ (i : Nat) (x : Rw), R[i]? = some x → ∀ g, x.v.ownBlock = some g → g < hi ∨ W0.heap.size ≤ g
theorem Spw.keep {w W0 W W' : World} {hi : Nat} {R : List Rw} (h : Spw w hi W0 W R) (hb : Below W.heap.size W W') : Spw w hi W0 W' R := ⟨h.rws.keep hb, h.kept.new hb, h.blk⟩
theorem Spw.grow {w W0 W W' : World} {hi : Nat} {R : List Rw} {i : Nat} {r : Rw} {t s n : Nat} {v : Value} {xs : List Value} (h : Spw w hi W0 W R) (hr : R[i]? = some r) (hg : W.grownBy W' r.v.ownBlock) (ho : W'.ownsRow w.heap.size t s v n xs)
    (hf : v.ownBlock = r.v.ownBlock ∨ ∃ q, v.ownBlock = some q ∧ W.heap.size ≤ q) : Spw w hi W0 W' (R.set i ⟨t, s, v, n, xs⟩) := by
  refine ⟨h.rws.grow hr hg ho hf, h.kept.grown hg (fun g e => ⟨((h.rws.own i r hr).lt g e).1, h.blk i r hr g e⟩), fun j x hj g hx => ?_⟩
  rcases set_at hj with ⟨_, hj⟩ | ⟨_, rfl⟩
  · exact h.blk j x hj g hx
  · rcases hf with e | ⟨q, e, hq⟩
    · exact h.blk i r hr g (by rw [← e]; exact hx)
    · rw [show v.ownBlock = some g from hx] at e
      injection e with e
      have := h.kept.size
      omega
theorem Spw.store {w W0 W : World} {hi : Nat} {R : List Rw} {i t s g n c : Nat} {xs : List Value} (h : Spw w hi W0 W R) (hr : R[i]? = some ⟨t, s, .slice (some ⟨g, 0, none⟩) n c, n, xs⟩) (j : Nat) (u : Value) :
    Spw w hi W0 (W.setCell ⟨g, j, none⟩ u) (R.set i ⟨t, s, .slice (some ⟨g, 0, none⟩) n c, n, xs.set j u⟩) := by
  obtain ⟨h1, h2⟩ := (h.rws.own i _ hr).stored j u
  exact h.grow hr h2 h1 (.inl rfl)
theorem rowsE_set1 {F : List Er} {k : Nat} {r r' : Er} (h : F[k]? = some r) (h2 : r'.r2 = r.r2) : rowsE (F.set k r') = (rowsE F).set (k * 2) r'.r1 := by
  induction F generalizing k with
  | nil => simp at h
  | cons x F ih =>
    cases k with
    | zero => simp at h; subst h; show [r'.r1, r'.r2] ++ rowsE F = _; rw [h2]; rfl
    | succ k =>
      rw [List.getElem?_cons_succ] at h
      show [x.r1, x.r2] ++ rowsE (F.set k r') = _
      rw [ih h, show (k + 1) * 2 = k * 2 + 1 + 1 by omega]
      rfl
theorem rowsE_set2 {F : List Er} {k : Nat} {r r' : Er} (h : F[k]? = some r) (h2 : r'.r1 = r.r1) : rowsE (F.set k r') = (rowsE F).set (k * 2 + 1) r'.r2 := by
  induction F generalizing k with
  | nil => simp at h
  | cons x F ih =>
    cases k with
    | zero => simp at h; subst h; show [r'.r1, r'.r2] ++ rowsE F = _; rw [h2]; rfl
    | succ k =>
      rw [List.getElem?_cons_succ] at h
      show [x.r1, x.r2] ++ rowsE (F.set k r') = _
      rw [ih h, show (k + 1) * 2 + 1 = k * 2 + 1 + 1 + 1 by omega]
      rfl
theorem rowsE_set0 {F : List Er} {k : Nat} {r r' : Er} (h : F[k]? = some r) (h1 : r'.r1 = r.r1) (h2 : r'.r2 = r.r2) : rowsE (F.set k r') = rowsE F := by
  rw [rowsE_set1 h h2, h1]
  obtain ⟨hi, e⟩ := List.getElem?_eq_some_iff.1 (rowsE_at h).1
  rw [← e]
  exact List.set_getElem_self hi
theorem ecs_set {F : List Er} {k j : Nat} {r r' : Er} {u : Value} (h : F[k]? = some r) (hj : j < 3) (h2 : r'.cs.toList = r.cs.toList.set j u) : ecs (F.set k r') = (ecs F).set (k * 3 + j) u := by
  induction F generalizing k with
  | nil => simp at h
  | cons x F ih =>
    cases k with
    | zero =>
      simp at h; subst h
      show r'.cs.toList ++ ecs F = (x.cs.toList ++ ecs F).set (0 * 3 + j) u
      rw [h2, List.set_append_left (0 * 3 + j) u (by simp [Er.cs]; omega), Nat.zero_mul, Nat.zero_add]
    | succ k =>
      rw [List.getElem?_cons_succ] at h
      show x.cs.toList ++ ecs (F.set k r') = (x.cs.toList ++ ecs F).set ((k + 1) * 3 + j) u
      rw [ih h, List.set_append_right ((k + 1) * 3 + j) u (by simp [Er.cs]; omega)]
      congr 2
      simp [Er.cs]; omega
theorem ecs_set0 {F : List Er} {k : Nat} {r r' : Er} (h : F[k]? = some r) (h2 : r'.cs = r.cs) : ecs (F.set k r') = ecs F := by
  induction F generalizing k with
  | nil => simp at h
  | cons x F ih =>
    cases k with
    | zero => simp at h; subst h; show r'.cs.toList ++ ecs F = _; rw [h2]; rfl
    | succ k =>
      rw [List.getElem?_cons_succ] at h
      show x.cs.toList ++ ecs (F.set k r') = _
      rw [ih h]; rfl
theorem set_self {F : List Er} {k : Nat} {r r' : Er} (h : F[k]? = some r) : (F.set k r')[k]? = some r' := by
  rw [List.getElem?_set_self (List.getElem?_eq_some_iff.1 h).1]
/-- a byte of an old text -/
theorem Spw.byte1 {w W0 W : World} {hi : Nat} {v : Value} {F : List Er} {k g1 o c1 n2 c2 : Nat} {a : Int} {O N : List UInt8} {p2 : Option Addr} (h : Spw w hi W0 W (rowF v F)) (hk : F[k]? = some ⟨a, some ⟨g1, 0, none⟩, o, c1, O, p2, n2, c2, N⟩) (j : Nat) (b : UInt8) :
    Spw w hi W0 (W.setCell ⟨g1, j, none⟩ (.int .u8 (b.toNat : Int))) (rowF v (F.set k ⟨a, some ⟨g1, 0, none⟩, o, c1, O.set j b, p2, n2, c2, N⟩)) := by
  have h1 := h.store (rowF_at hk).1 j (.int .u8 (b.toNat : Int))
  have e : rowF v (F.set k ⟨a, some ⟨g1, 0, none⟩, o, c1, O.set j b, p2, n2, c2, N⟩) = (rowF v F).set (k * 2 + 1) ⟨5, 1, .slice (some ⟨g1, 0, none⟩) o c1, o, (bv O).set j (.int .u8 (b.toNat : Int))⟩ := by
    unfold rowF
    rw [List.length_set, ecs_set0 (r' := ⟨a, some ⟨g1, 0, none⟩, o, c1, O.set j b, p2, n2, c2, N⟩) hk rfl, rowsE_set1 (r' := ⟨a, some ⟨g1, 0, none⟩, o, c1, O.set j b, p2, n2, c2, N⟩) hk rfl, bv_set]
    rfl
  rw [e]
  exact h1
theorem Spw.byte2 {w W0 W : World} {hi : Nat} {v : Value} {F : List Er} {k g1 o c1 n2 c2 : Nat} {a : Int} {O N : List UInt8} {p1 : Option Addr} (h : Spw w hi W0 W (rowF v F)) (hk : F[k]? = some ⟨a, p1, o, c1, O, some ⟨g1, 0, none⟩, n2, c2, N⟩) (j : Nat) (b : UInt8) :
    Spw w hi W0 (W.setCell ⟨g1, j, none⟩ (.int .u8 (b.toNat : Int))) (rowF v (F.set k ⟨a, p1, o, c1, O, some ⟨g1, 0, none⟩, n2, c2, N.set j b⟩)) := by
  have h1 := h.store (rowF_at hk).2 j (.int .u8 (b.toNat : Int))
  have e : rowF v (F.set k ⟨a, p1, o, c1, O, some ⟨g1, 0, none⟩, n2, c2, N.set j b⟩) = (rowF v F).set (k * 2 + 1 + 1) ⟨5, 1, .slice (some ⟨g1, 0, none⟩) n2 c2, n2, (bv N).set j (.int .u8 (b.toNat : Int))⟩ := by
    unfold rowF
    rw [List.length_set, ecs_set0 (r' := ⟨a, p1, o, c1, O, some ⟨g1, 0, none⟩, n2, c2, N.set j b⟩) hk rfl, rowsE_set2 (r' := ⟨a, p1, o, c1, O, some ⟨g1, 0, none⟩, n2, c2, N.set j b⟩) hk rfl, bv_set]
    rfl
  rw [e]
  exact h1
/-- an edit's place -/
theorem Spw.place {w W0 W : World} {hi g c n : Nat} {F : List Er} {k : Nat} {r : Er} (h : Spw w hi W0 W (rowF (.slice (some ⟨g, 0, none⟩) n c) F)) (hn : F.length = n) (hk : F[k]? = some r) (z : Int) :
    Spw w hi W0 (W.setCell ⟨g, k * 3, none⟩ (.int .i64 z)) (rowF (.slice (some ⟨g, 0, none⟩) n c) (F.set k ⟨z, r.p1, r.o, r.c1, r.O, r.p2, r.n, r.c2, r.N⟩)) := by
  subst hn
  have h1 := h.store (i := 0) (t := 77) (s := 3) (n := F.length) (xs := ecs F) rfl (k * 3) (.int .i64 z)
  have e : rowF (.slice (some ⟨g, 0, none⟩) F.length c) (F.set k ⟨z, r.p1, r.o, r.c1, r.O, r.p2, r.n, r.c2, r.N⟩) = (rowF (.slice (some ⟨g, 0, none⟩) F.length c) F).set 0 ⟨77, 3, .slice (some ⟨g, 0, none⟩) F.length c, F.length, (ecs F).set (k * 3) (.int .i64 z)⟩ := by
    unfold rowF
    rw [List.length_set, rowsE_set0 (r' := ⟨z, r.p1, r.o, r.c1, r.O, r.p2, r.n, r.c2, r.N⟩) hk rfl rfl, ecs_set (r' := ⟨z, r.p1, r.o, r.c1, r.O, r.p2, r.n, r.c2, r.N⟩) (j := 0) (u := .int .i64 z) hk (by omega) rfl]
    rfl
  rw [e]
  exact h1
/-- an old text that was grown is put in its place -/
theorem Spw.app1 {w W0 W W1 : World} {hi g c n : Nat} {F : List Er} {k : Nat} {r : Er} {p1 : Option Addr} {o1 c1 : Nat} {O1 : List UInt8} (h : Spw w hi W0 W (rowF (.slice (some ⟨g, 0, none⟩) n c) F)) (hn : F.length = n) (hk : F[k]? = some r)
    (hg : W.grownBy W1 (Value.slice r.p1 r.o r.c1).ownBlock) (ho : W1.ownsRow w.heap.size 5 1 (.slice p1 o1 c1) o1 (bv O1)) (hf : (Value.slice p1 o1 c1).ownBlock = (Value.slice r.p1 r.o r.c1).ownBlock ∨ ∃ q, (Value.slice p1 o1 c1).ownBlock = some q ∧ W.heap.size ≤ q) :
    Spw w hi W0 (W1.setCell ⟨g, k * 3 + 1, none⟩ (.slice p1 o1 c1)) (rowF (.slice (some ⟨g, 0, none⟩) n c) (F.set k ⟨r.a, p1, o1, c1, O1, r.p2, r.n, r.c2, r.N⟩)) := by
  subst hn
  have h1 := h.grow (rowF_at hk).1 hg ho hf
  have h2 := h1.store (i := 0) (t := 77) (s := 3) (g := g) (n := F.length) (c := c) (xs := ecs F) rfl (k * 3 + 1) (.slice p1 o1 c1)
  have e : rowF (.slice (some ⟨g, 0, none⟩) F.length c) (F.set k ⟨r.a, p1, o1, c1, O1, r.p2, r.n, r.c2, r.N⟩) = ((rowF (.slice (some ⟨g, 0, none⟩) F.length c) F).set (k * 2 + 1) ⟨5, 1, .slice p1 o1 c1, o1, bv O1⟩).set 0 ⟨77, 3, .slice (some ⟨g, 0, none⟩) F.length c, F.length, (ecs F).set (k * 3 + 1) (.slice p1 o1 c1)⟩ := by
    unfold rowF
    rw [List.length_set, rowsE_set1 (r' := ⟨r.a, p1, o1, c1, O1, r.p2, r.n, r.c2, r.N⟩) hk rfl, ecs_set (r' := ⟨r.a, p1, o1, c1, O1, r.p2, r.n, r.c2, r.N⟩) (j := 1) (u := .slice p1 o1 c1) hk (by omega) rfl]
    rfl
  rw [e]
  exact h2
theorem Spw.app2 {w W0 W W1 : World} {hi g c n : Nat} {F : List Er} {k : Nat} {r : Er} {p1 : Option Addr} {o1 c1 : Nat} {O1 : List UInt8} (h : Spw w hi W0 W (rowF (.slice (some ⟨g, 0, none⟩) n c) F)) (hn : F.length = n) (hk : F[k]? = some r)
    (hg : W.grownBy W1 (Value.slice r.p2 r.n r.c2).ownBlock) (ho : W1.ownsRow w.heap.size 5 1 (.slice p1 o1 c1) o1 (bv O1)) (hf : (Value.slice p1 o1 c1).ownBlock = (Value.slice r.p2 r.n r.c2).ownBlock ∨ ∃ q, (Value.slice p1 o1 c1).ownBlock = some q ∧ W.heap.size ≤ q) :
    Spw w hi W0 (W1.setCell ⟨g, k * 3 + 2, none⟩ (.slice p1 o1 c1)) (rowF (.slice (some ⟨g, 0, none⟩) n c) (F.set k ⟨r.a, r.p1, r.o, r.c1, r.O, p1, o1, c1, O1⟩)) := by
  subst hn
  have h1 := h.grow (rowF_at hk).2 hg ho hf
  have h2 := h1.store (i := 0) (t := 77) (s := 3) (g := g) (n := F.length) (c := c) (xs := ecs F) rfl (k * 3 + 2) (.slice p1 o1 c1)
  have e : rowF (.slice (some ⟨g, 0, none⟩) F.length c) (F.set k ⟨r.a, r.p1, r.o, r.c1, r.O, p1, o1, c1, O1⟩) = ((rowF (.slice (some ⟨g, 0, none⟩) F.length c) F).set (k * 2 + 1 + 1) ⟨5, 1, .slice p1 o1 c1, o1, bv O1⟩).set 0 ⟨77, 3, .slice (some ⟨g, 0, none⟩) F.length c, F.length, (ecs F).set (k * 3 + 2) (.slice p1 o1 c1)⟩ := by
    unfold rowF
    rw [List.length_set, rowsE_set2 (r' := ⟨r.a, r.p1, r.o, r.c1, r.O, p1, o1, c1, O1⟩) hk rfl, ecs_set (r' := ⟨r.a, r.p1, r.o, r.c1, r.O, p1, o1, c1, O1⟩) (j := 2) (u := .slice p1 o1 c1) hk (by omega) rfl]
    rfl
  rw [e]
  exact h2
/-- the cells of an edit of the list -/
structure Ec (W : World) (g k : Nat) (r : Er) : Prop where
  e0 : W.cell? ⟨g, k * 3, none⟩ = some (.int .i64 r.a)
  e1 : W.cell? ⟨g, k * 3 + 1, none⟩ = some (.slice r.p1 r.o r.c1)
  e2 : W.cell? ⟨g, k * 3 + 2, none⟩ = some (.slice r.p2 r.n r.c2)
  f : ∀ j, W.frozen? ⟨g, j, none⟩ = false
theorem own_ec {W : World} {base g n c k : Nat} {F : List Er} {r : Er} (h : W.ownsRow base 77 3 (.slice (some ⟨g, 0, none⟩) n c) n (ecs F)) (hk : F[k]? = some r) (hn : F.length = n) : Ec W g k r := by
  obtain ⟨h1, h2, h3⟩ := ecs_at hk
  have hl := (List.getElem?_eq_some_iff.1 hk).1
  exact ⟨by rw [h.cellAt _ (by omega)]; exact h1, by rw [h.cellAt _ (by omega)]; exact h2, by rw [h.cellAt _ (by omega)]; exact h3, fun j => h.frozenAt j⟩
theorem Spw.ec {w W0 W : World} {hi g c n k : Nat} {F : List Er} {r : Er} (h : Spw w hi W0 W (rowF (.slice (some ⟨g, 0, none⟩) n c) F)) (hn : F.length = n) (hk : F[k]? = some r) : Ec W g k r := by
  have := h.rws.own 0 _ rfl
  subst hn
  exact own_ec this hk rfl
theorem Spw.list {w W0 W : World} {hi n : Nat} {v : Value} {F : List Er} (h : Spw w hi W0 W (rowF v F)) (hn : F.length = n) : W.ownsRow w.heap.size 77 3 v n (ecs F) := by
  subst hn
  exact h.rws.own 0 _ rfl
theorem Ec.grown {W W' : World} {g k : Nat} {r : Er} {b : Option Nat} (h : Ec W g k r) (hg : W.grownBy W' b) (hne : some g ≠ b) : Ec W' g k r := by
  have hlt := lt_of_cell h.e0
  have hb := hg.block g hlt hne
  exact ⟨by rw [World.cell?_of_block hb]; exact h.e0, by rw [World.cell?_of_block hb]; exact h.e1, by rw [World.cell?_of_block hb]; exact h.e2, fun j => by rw [World.frozen?_of_block hb]; exact h.f j⟩
theorem Ec.keep {W W' : World} {g k : Nat} {r : Er} (h : Ec W g k r) (hb : Below W.heap.size W W') : Ec W' g k r := by
  have hb := hb.block g (lt_of_cell h.e0)
  exact ⟨by rw [World.cell?_of_block hb]; exact h.e0, by rw [World.cell?_of_block hb]; exact h.e1, by rw [World.cell?_of_block hb]; exact h.e2, fun j => by rw [World.frozen?_of_block hb]; exact h.f j⟩
theorem Spw.t1 {w W0 W : World} {hi k : Nat} {v : Value} {F : List Er} {r : Er} (h : Spw w hi W0 W (rowF v F)) (hk : F[k]? = some r) : W.ownsRow w.heap.size 5 1 (.slice r.p1 r.o r.c1) r.o (bv r.O) := h.rws.own _ _ (rowF_at hk).1
theorem Spw.t2 {w W0 W : World} {hi k : Nat} {v : Value} {F : List Er} {r : Er} (h : Spw w hi W0 W (rowF v F)) (hk : F[k]? = some r) : W.ownsRow w.heap.size 5 1 (.slice r.p2 r.n r.c2) r.n (bv r.N) := h.rws.own _ _ (rowF_at hk).2
theorem Spw.ne1 {w W0 W : World} {hi g c n k : Nat} {F : List Er} {r : Er} (h : Spw w hi W0 W (rowF (.slice (some ⟨g, 0, none⟩) n c) F)) (hk : F[k]? = some r) : some g ≠ (Value.slice r.p1 r.o r.c1).ownBlock := fun e =>
  h.rws.far 0 (k * 2 + 1) _ _ (by omega) rfl (rowF_at hk).1 g rfl e.symm
theorem Spw.ne2 {w W0 W : World} {hi g c n k : Nat} {F : List Er} {r : Er} (h : Spw w hi W0 W (rowF (.slice (some ⟨g, 0, none⟩) n c) F)) (hk : F[k]? = some r) : some g ≠ (Value.slice r.p2 r.n r.c2).ownBlock := fun e =>
  h.rws.far 0 (k * 2 + 1 + 1) _ _ (by omega) rfl (rowF_at hk).2 g rfl e.symm
theorem byte_at {W : World} {base n c j : Nat} {p : Option Addr} {l : List UInt8} (h : W.ownsRow base 5 1 (.slice p n c) n (bv l)) (hj : j < n) : ∃ g, p = some ⟨g, 0, none⟩ ∧ W.cell? ⟨g, j, none⟩ = some (.int .u8 ((at8 l j).toNat : Int)) ∧ W.frozen? ⟨g, j, none⟩ = false := by
  obtain ⟨g, cap, e, _⟩ := own_some h (by omega)
  simp at e
  obtain ⟨rfl, rfl⟩ := e
  have hl := h.1
  rw [bv_length] at hl
  exact ⟨g, rfl, by rw [h.cellAt j (by omega)]; exact bv_at l j (by omega), h.frozenAt j⟩
/-- bounds of the edits from i on -/
def Bnd (i : Nat) (F : List Er) : Prop := ∀ (k : Nat) (r : Er), i ≤ k → F[k]? = some r → r.o ≤ 140737488355328 ∧ r.n ≤ 140737488355328
theorem Bnd.set {i k : Nat} {F : List Er} {r : Er} (h : Bnd i F) (hk : k < i) : Bnd i (F.set k r) := fun j x hj hx => by
  rw [List.getElem?_set_ne (by omega)] at hx
  exact h j x hj hx
theorem xr51 (x : UInt8) : bits BinOp.xor IntKind.u8 (x.toNat : Int) 51 = ((x ^^^ 51).toNat : Int) := by
  have h : ∀ k : Fin 256, bits BinOp.xor IntKind.u8 ((UInt8.ofNat k.val).toNat : Int) 51 = (((UInt8.ofNat k.val) ^^^ 51).toNat : Int) := by decide +kernel
  have := h ⟨x.toNat, x.toNat_lt⟩
  simpa using this
def lit1 (g : Nat) (x : UInt8) : Rw := ⟨5, 1, .slice (some ⟨g, 0, none⟩) 1 1, 1, bv [x]⟩
theorem Spw.sub {w W0 W : World} {hi : Nat} {R R' : List Rw} (h : Spw w hi W0 W R) (hs : ∀ (i : Nat) (x : Rw), R'[i]? = some x → R[i]? = some x) : Spw w hi W0 W R' :=
  ⟨⟨fun i x hi => h.rws.own i x (hs i x hi), fun i j p q hij hp hq => h.rws.far i j p q hij (hs i p hp) (hs j q hq), h.rws.bel⟩, h.kept, fun i x hi => h.blk i x (hs i x hi)⟩
theorem Spw.lit {w W0 W : World} {hi : Nat} {R : List Rw} (h : Spw w hi W0 W R) (x : UInt8) : Spw w hi W0 (W.alloc (.cells (bv [x]).toArray 5)) (R ++ [lit1 W.heap.size x]) := by
  have hb := bAlloc (Below.refl _ W) (.cells (bv [x]).toArray 5)
  have ho : (W.alloc (.cells (bv [x]).toArray 5)).ownsRow W.heap.size 5 1 (.slice (some ⟨W.heap.size, 0, none⟩) 1 1) 1 (bv [x]) :=
    ⟨rfl, .inr ⟨W.heap.size, 1, _, rfl, Nat.le_refl _, heap_alloc_new W _, Nat.le_refl _, by decide, rfl, rfl⟩⟩
  refine ⟨h.rws.new hb ho, h.kept.new hb, fun i y hy g hg => ?_⟩
  rcases Nat.lt_or_ge i R.length with hl | hl
  · rw [List.getElem?_append_left hl] at hy
    exact h.blk i y hy g hg
  · rw [List.getElem?_append_right hl] at hy
    obtain rfl : y = lit1 W.heap.size x := by
      rcases Nat.eq_zero_or_pos (i - R.length) with e | e
      · rw [e] at hy; exact (Option.some.inj hy).symm
      · rw [List.getElem?_eq_none (by simp; omega)] at hy; cases hy
    have e : W.heap.size = g := by injection hg
    right; rw [← e]; exact h.kept.size
/-- in the midst of two appends and their stores: the list's row, the two texts, the two literals -/
structure Sq (w W0 : World) (hi : Nat) (R0 : List Rw) (i : Nat) (W : World) (hd t1 t2 : Rw) (l1 l2 : Option Nat) (R : List Rw) : Prop where
  sp : Spw w hi W0 W R
  a0 : R[0]? = some hd
  a1 : R[i]? = some t1
  a2 : R[i + 1]? = some t2
  rest : ∀ (j : Nat) (x : Rw), j ≠ 0 → j ≠ i → j ≠ i + 1 → R0[j]? = some x → R[j]? = some x
  i0 : 0 < i
  i1 : i + 1 < R0.length
  n1 : ∀ g, l1 = some g → ∃ j, R0.length ≤ j ∧ R[j]? = some (lit1 g 1)
  n2 : ∀ g, l2 = some g → ∃ j, R0.length ≤ j ∧ R[j]? = some (lit1 g 2)
  len : R0.length ≤ R.length
theorem at_left {R S : List Rw} {j : Nat} {x : Rw} (h : R[j]? = some x) : (R ++ S)[j]? = some x := by
  rw [List.getElem?_append_left (List.getElem?_eq_some_iff.1 h).1]; exact h
theorem at_end {R : List Rw} {x : Rw} : (R ++ [x])[R.length]? = some x := by rw [List.getElem?_append_right (Nat.le_refl _), Nat.sub_self]; rfl
theorem Sq.m1 {w W0 W : World} {hi i : Nat} {R0 R : List Rw} {hd t1 t2 : Rw} {l2 : Option Nat} (h : Sq w W0 hi R0 i W hd t1 t2 none l2 R) : ∃ R', Sq w W0 hi R0 i (W.alloc (.cells (bv [1]).toArray 5)) hd t1 t2 (some W.heap.size) l2 R' :=
  ⟨_, h.sp.lit 1, at_left h.a0, at_left h.a1, at_left h.a2, fun j x h1 h2 h3 h4 => at_left (h.rest j x h1 h2 h3 h4), h.i0, h.i1, fun g hg => by injection hg with hg; subst hg; exact ⟨R.length, h.len, at_end⟩, fun g hg => by obtain ⟨j, h1, h2⟩ := h.n2 g hg; exact ⟨j, h1, at_left h2⟩, by rw [List.length_append]; have := h.len; omega⟩
theorem Sq.m2 {w W0 W : World} {hi i : Nat} {R0 R : List Rw} {hd t1 t2 : Rw} {l1 : Option Nat} (h : Sq w W0 hi R0 i W hd t1 t2 l1 none R) : ∃ R', Sq w W0 hi R0 i (W.alloc (.cells (bv [2]).toArray 5)) hd t1 t2 l1 (some W.heap.size) R' :=
  ⟨_, h.sp.lit 2, at_left h.a0, at_left h.a1, at_left h.a2, fun j x h1 h2 h3 h4 => at_left (h.rest j x h1 h2 h3 h4), h.i0, h.i1, fun g hg => by obtain ⟨j, h1, h2⟩ := h.n1 g hg; exact ⟨j, h1, at_left h2⟩, fun g hg => by injection hg with hg; subst hg; exact ⟨R.length, h.len, at_end⟩, by rw [List.length_append]; have := h.len; omega⟩
theorem Spw.app {w W0 W : World} {hi i j g n c : Nat} {R : List Rw} {p : Option Addr} {l : List UInt8} {x : UInt8} (h : Spw w hi W0 W R) (h1 : R[i]? = some ⟨5, 1, .slice p n c, n, bv l⟩) (h2 : R[j]? = some (lit1 g x)) (hb : n + 1 ≤ 150000000000000) (ty : Nat) :
    ∃ p' c' W', (Builtin.append_ #[70, 70] ty #[.slice p n c, .slice (some ⟨g, 0, none⟩) 1 1]).run Try.prog W = .ok (.slice p' (n + 1) c') W' ∧ Spw w hi W0 W' (R.set i ⟨5, 1, .slice p' (n + 1) c', n + 1, bv (l ++ [x])⟩) := by
  have ho := h.rws.own i _ h1
  have hl := h.rws.own j _ h2
  have hsrc : Srv W (.slice (some ⟨g, 0, none⟩) 1 1) 1 (bv [x]) := .inr ⟨⟨g, 0, none⟩, 1, rfl, fun k u hk => hl.cells rfl k u hk⟩
  obtain ⟨v', w', hr, h3, h4, h5⟩ := run_bg ty w.heap.size _ n (bv l) ho _ 1 (bv [x]) hsrc rfl (bv_one _) hb (.inl (by omega)) h.rws.size
  obtain ⟨p', c', rfl⟩ := own_shape h3
  exact ⟨p', c', w', hr, h.grow h1 h4 (by rw [bv_append]; exact h3) h5⟩
theorem set_ne {R : List Rw} {i j : Nat} {x y : Rw} (hij : i ≠ j) (h : R[j]? = some x) : (R.set i y)[j]? = some x := by rw [List.getElem?_set_ne hij]; exact h
theorem set_eq {R : List Rw} {i : Nat} {x y : Rw} (h : R[i]? = some x) : (R.set i y)[i]? = some y := by rw [List.getElem?_set_self (List.getElem?_eq_some_iff.1 h).1]
theorem Sq.p1 {w W0 W : World} {hi i g n c : Nat} {R0 R : List Rw} {hd t2 : Rw} {p : Option Addr} {l : List UInt8} {l2 : Option Nat} (h : Sq w W0 hi R0 i W hd ⟨5, 1, .slice p n c, n, bv l⟩ t2 (some g) l2 R) (hb : n + 1 ≤ 150000000000000) (ty : Nat) :
    ∃ p' c' W' R', (Builtin.append_ #[70, 70] ty #[.slice p n c, .slice (some ⟨g, 0, none⟩) 1 1]).run Try.prog W = .ok (.slice p' (n + 1) c') W' ∧ Sq w W0 hi R0 i W' hd ⟨5, 1, .slice p' (n + 1) c', n + 1, bv (l ++ [1])⟩ t2 (some g) l2 R' := by
  obtain ⟨j, hj, hl⟩ := h.n1 g rfl
  obtain ⟨p', c', W', hr, hs⟩ := h.sp.app h.a1 hl hb ty
  have h0 := h.i0
  have h9 := h.i1
  exact ⟨p', c', W', _, hr, hs, set_ne (by omega) h.a0, set_eq h.a1, set_ne (by omega) h.a2, fun k x k1 k2 k3 k4 => set_ne (Ne.symm k2) (h.rest k x k1 k2 k3 k4), h.i0, h.i1, fun g' e => by obtain ⟨k, e1, e2⟩ := h.n1 g' e; exact ⟨k, e1, set_ne (by omega) e2⟩, fun g' e => by obtain ⟨k, e1, e2⟩ := h.n2 g' e; exact ⟨k, e1, set_ne (by omega) e2⟩, by rw [List.length_set]; exact h.len⟩
theorem Sq.p2 {w W0 W : World} {hi i g n c : Nat} {R0 R : List Rw} {hd t1 : Rw} {p : Option Addr} {l : List UInt8} {l1 : Option Nat} (h : Sq w W0 hi R0 i W hd t1 ⟨5, 1, .slice p n c, n, bv l⟩ l1 (some g) R) (hb : n + 1 ≤ 150000000000000) (ty : Nat) :
    ∃ p' c' W' R', (Builtin.append_ #[70, 70] ty #[.slice p n c, .slice (some ⟨g, 0, none⟩) 1 1]).run Try.prog W = .ok (.slice p' (n + 1) c') W' ∧ Sq w W0 hi R0 i W' hd t1 ⟨5, 1, .slice p' (n + 1) c', n + 1, bv (l ++ [2])⟩ l1 (some g) R' := by
  obtain ⟨j, hj, hl⟩ := h.n2 g rfl
  obtain ⟨p', c', W', hr, hs⟩ := h.sp.app h.a2 hl hb ty
  have h0 := h.i0
  have h9 := h.i1
  exact ⟨p', c', W', _, hr, hs, set_ne (by omega) h.a0, set_ne (by omega) h.a1, set_eq h.a2, fun k x k1 k2 k3 k4 => set_ne (Ne.symm k3) (h.rest k x k1 k2 k3 k4), h.i0, h.i1, fun g' e => by obtain ⟨k, e1, e2⟩ := h.n1 g' e; exact ⟨k, e1, set_ne (by omega) e2⟩, fun g' e => by obtain ⟨k, e1, e2⟩ := h.n2 g' e; exact ⟨k, e1, set_ne (by omega) e2⟩, by rw [List.length_set]; exact h.len⟩
theorem Sq.st {w W0 W : World} {hi i g n c : Nat} {R0 R : List Rw} {t1 t2 : Rw} {xs : List Value} {l1 l2 : Option Nat} (h : Sq w W0 hi R0 i W ⟨77, 3, .slice (some ⟨g, 0, none⟩) n c, n, xs⟩ t1 t2 l1 l2 R) (j : Nat) (u : Value) :
    ∃ R', Sq w W0 hi R0 i (W.setCell ⟨g, j, none⟩ u) ⟨77, 3, .slice (some ⟨g, 0, none⟩) n c, n, xs.set j u⟩ t1 t2 l1 l2 R' := by
  have h0 := h.i0
  have h9 := h.i1
  exact ⟨_, h.sp.store h.a0 j u, set_eq h.a0, set_ne (by omega) h.a1, set_ne (by omega) h.a2, fun k x k1 k2 k3 k4 => set_ne (Ne.symm k1) (h.rest k x k1 k2 k3 k4), h.i0, h.i1, fun g' e => by obtain ⟨k, e1, e2⟩ := h.n1 g' e; exact ⟨k, e1, set_ne (by omega) e2⟩, fun g' e => by obtain ⟨k, e1, e2⟩ := h.n2 g' e; exact ⟨k, e1, set_ne (by omega) e2⟩, by rw [List.length_set]; exact h.len⟩
/-- it begins -/
theorem Spw.sq {w W0 W : World} {hi g c n k : Nat} {F : List Er} {r : Er} (h : Spw w hi W0 W (rowF (.slice (some ⟨g, 0, none⟩) n c) F)) (hn : F.length = n) (hk : F[k]? = some r) :
    Sq w W0 hi (rowF (.slice (some ⟨g, 0, none⟩) n c) F) (k * 2 + 1) W ⟨77, 3, .slice (some ⟨g, 0, none⟩) n c, n, ecs F⟩ r.r1 r.r2 none none (rowF (.slice (some ⟨g, 0, none⟩) n c) F) := by
  obtain ⟨h1, h2⟩ := rowF_at (v := .slice (some ⟨g, 0, none⟩) n c) hk
  subst hn
  exact ⟨h, rfl, h1, h2, fun j x _ _ _ hj => hj, by omega, (List.getElem?_eq_some_iff.1 h2).1, (fun g hg => by cases hg), (fun g hg => by cases hg), Nat.le_refl _⟩
/-- it ends -/
theorem Sq.fin {w W0 W : World} {hi g c n k : Nat} {F : List Er} {r : Er} {R : List Rw} {l1 l2 : Option Nat} {p1 p2 : Option Addr} {o1 c1 o2 c2 : Nat} {O1 O2 : List UInt8} (hn : F.length = n) (hk : F[k]? = some r)
    (h : Sq w W0 hi (rowF (.slice (some ⟨g, 0, none⟩) n c) F) (k * 2 + 1) W ⟨77, 3, .slice (some ⟨g, 0, none⟩) n c, n, ((ecs F).set (k * 3 + 1) (.slice p1 o1 c1)).set (k * 3 + 2) (.slice p2 o2 c2)⟩ ⟨5, 1, .slice p1 o1 c1, o1, bv O1⟩ ⟨5, 1, .slice p2 o2 c2, o2, bv O2⟩ l1 l2 R) :
    Spw w hi W0 W (rowF (.slice (some ⟨g, 0, none⟩) n c) (F.set k ⟨r.a, p1, o1, c1, O1, p2, o2, c2, O2⟩)) := by
  subst hn
  have hl := (List.getElem?_eq_some_iff.1 hk).1
  have e : rowF (.slice (some ⟨g, 0, none⟩) F.length c) (F.set k ⟨r.a, p1, o1, c1, O1, p2, o2, c2, O2⟩) = (((rowF (.slice (some ⟨g, 0, none⟩) F.length c) F).set (k * 2 + 1) ⟨5, 1, .slice p1 o1 c1, o1, bv O1⟩).set (k * 2 + 1 + 1) ⟨5, 1, .slice p2 o2 c2, o2, bv O2⟩).set 0 ⟨77, 3, .slice (some ⟨g, 0, none⟩) F.length c, F.length, ((ecs F).set (k * 3 + 1) (.slice p1 o1 c1)).set (k * 3 + 2) (.slice p2 o2 c2)⟩ := by
    have hk2 : (F.set k ⟨r.a, p1, o1, c1, O1, r.p2, r.n, r.c2, r.N⟩)[k]? = some ⟨r.a, p1, o1, c1, O1, r.p2, r.n, r.c2, r.N⟩ := set_self hk
    have e1 : F.set k ⟨r.a, p1, o1, c1, O1, p2, o2, c2, O2⟩ = (F.set k ⟨r.a, p1, o1, c1, O1, r.p2, r.n, r.c2, r.N⟩).set k ⟨r.a, p1, o1, c1, O1, p2, o2, c2, O2⟩ := by rw [List.set_set]
    unfold rowF
    rw [List.length_set, e1, rowsE_set2 (r' := ⟨r.a, p1, o1, c1, O1, p2, o2, c2, O2⟩) hk2 rfl, rowsE_set1 (r' := ⟨r.a, p1, o1, c1, O1, r.p2, r.n, r.c2, r.N⟩) hk rfl,
      ecs_set (r' := ⟨r.a, p1, o1, c1, O1, p2, o2, c2, O2⟩) (j := 2) (u := .slice p2 o2 c2) hk2 (by omega) rfl, ecs_set (r' := ⟨r.a, p1, o1, c1, O1, r.p2, r.n, r.c2, r.N⟩) (j := 1) (u := .slice p1 o1 c1) hk (by omega) rfl]
    rfl
  rw [e]
  refine h.sp.sub fun j x hj => ?_
  rcases Nat.eq_zero_or_pos j with e0 | e0
  · subst e0
    rw [List.getElem?_set_self (by simp [rowF])] at hj
    rw [h.a0]; exact hj
  · rw [List.getElem?_set_ne (by omega)] at hj
    by_cases e2 : j = k * 2 + 1 + 1
    · subst e2
      rw [List.getElem?_set_self (by rw [List.length_set]; exact h.i1)] at hj
      rw [h.a2]; exact hj
    · rw [List.getElem?_set_ne (by omega)] at hj
      by_cases e1 : j = k * 2 + 1
      · subst e1
        rw [List.getElem?_set_self (by have := h.i1; omega)] at hj
        rw [h.a1]; exact hj
      · rw [List.getElem?_set_ne (by omega)] at hj
        exact h.rest j x (by omega) e1 e2 hj
/-- what it reads -/
theorem Sq.rd {w W0 W : World} {hi g c n k i : Nat} {F : List Er} {r : Er} {R0 R : List Rw} {t1 t2 : Rw} {l1 l2 : Option Nat} (hn : F.length = n) (hk : F[k]? = some r) (h : Sq w W0 hi R0 i W ⟨77, 3, .slice (some ⟨g, 0, none⟩) n c, n, ecs F⟩ t1 t2 l1 l2 R) : Ec W g k r := by
  have := h.sp.rws.own 0 _ h.a0
  exact own_ec this hk hn
/-- where it stores -/
theorem Sq.wr {w W0 W : World} {hi g c n i j : Nat} {xs : List Value} {R0 R : List Rw} {t1 t2 : Rw} {l1 l2 : Option Nat} (h : Sq w W0 hi R0 i W ⟨77, 3, .slice (some ⟨g, 0, none⟩) n c, n, xs⟩ t1 t2 l1 l2 R) (hj : j < n * 3) (hx : xs.length = n * 3) : (∃ u, W.cell? ⟨g, j, none⟩ = some u) ∧ W.frozen? ⟨g, j, none⟩ = false := by
  have ho := h.sp.rws.own 0 _ h.a0
  exact ⟨⟨xs[j]'(by omega), by rw [ho.cellAt j (by omega)]; exact List.getElem?_eq_getElem _⟩, ho.frozenAt j⟩
theorem Spw.drew {w W0 W : World} {hi : Nat} {R : List Rw} (h : Spw w hi W0 W R) : Spw w hi W0 W.drew R := h.keep (Below.refl _ _).drew
theorem wpLate_any' {P : Program} {ops : Array Oper} {Q : Exit → Act → World → Prop} {md : Region.Mode} {S : World → Prop} {n0 i : Nat} {oi : Oper} {v : Value} {fuel : Nat} {listed : Array Bool} {a : Act} {w : World} (hi : ops[i]? = some oi)
    (hs : Region.noSelect ops = true) (hf : Region.free md ops listed i = true) (hr : (Region.ready md ops listed).contains i = true) (hin0 : i ≠ n0) (hsh : Shut md ops listed)
    (hQ : ∀ c a w, Q (.panic c) (a.put oi.dst v) w → Q (.panic c) a w) (hy : YieldsIf P ops (fun _ => True) oi v a) (hS : listed.getD n0 false = false → S w)
    (h : Shut md ops (listed.setIfInBounds i true) → wpLate P md ops Q S n0 fuel (listed.setIfInBounds i true) (a.put oi.dst v) w) : wpLate P md ops Q S n0 (fuel + 1) listed a w :=
  wpLate_any hi hs hf hr hin0 hQ hy hS (h (hsh.set (by simpa using hr)))
/-- append, an operation that may come up -/
theorem lt_tx {w : World} {o : Oper} {a : Act} {K : Act → World → Prop} {Q : Exit → Act → World → Prop} (d s : Operand)
    (ho : o.op = .call { callee := .builtin .append, args := #[d, s], argTypes := #[70, 70] }) (v u : Value) (hd : a.eval d = v) (hs : a.eval s = u) {v' : Value} {w' : World}
    (hr : (Builtin.append_ #[70, 70] o.type #[v, u]).run Try.prog w = .ok v' w') (h : K (a.put o.dst v') w') : Oper.wp Try.prog o a w K Q := by
  unfold Oper.wp execOp
  simp only [ho, resolve, invoke, builtin, Sem.run_bind, Sem.run_pure, Result.andThen_ok, List.map_toArray, List.map_cons, List.map_nil, hd, hs, hr]
  exact h
set_option maxHeartbeats 16000000 in
set_option linter.unusedSimpArgs false in
theorem spoil_any (v : Value) (F : List Er) (w W0 : World) (hi : Nat) (hS : Hid (Spw w hi W0 W0 (rowF v F))) (hB : Hid (Bnd 0 F)) (hn : F.length ≤ 140737488355328) :
    Calls Try.prog 38 #[v] W0 fun e W' => (∃ u, e = .returned u) ∧ Kept w.heap.size hi W0 W' := by
  obtain ⟨n, hn0⟩ : ∃ n, F.length = n := ⟨_, rfl⟩
  obtain ⟨p, c, ev⟩ : ∃ p c, v = .slice p n c := by
    have h := hS.out.rws.own 0 _ rfl
    obtain ⟨p, c, e⟩ := own_shape h
    exact ⟨p, c, by rw [← hn0]; exact e⟩
  subst ev
  have HN := mkH hn0
  have hnb : n ≤ 140737488355328 := by omega
  clear hn0 hn
  go_enter Try.func38, Try.ntmps38
  go_wp2_with fail
  go_loopg [2, 3, 4, 5] n (fun m x3 x4 x5 x6 wx => ∃ (i : Nat) (G : List Er), x3 = .int .i64 (i : Int) ∧ i + m = n ∧ Hid (G.length = n) ∧ Hid (Bnd i G) ∧ Hid (Spw w hi W0 wx (rowF (.slice p n c) G)))
  case atStart => exact ⟨0, F, rfl, by omega, HN.out, hB.out, hS.out⟩
  case round =>
    obtain ⟨i, G, rfl, him, GN, GB, GS⟩ := hrel
    obtain ⟨go, hgo⟩ : ∃ g, g = gk - 1 := ⟨_, rfl⟩
    by_cases hi' : i < n
    · have hi0 : (0 : Int) ≤ (i : Int) := by omega
      have hi1 : (i : Int) < (n : Int) := by omega
      have hw3 : IntKind.i64.wrap ((i : Int) + 1) = ((i + 1 : Nat) : Int) := by rw [IntKind.wrap_i64]; omega
      obtain ⟨g, rfl⟩ : ∃ g, p = some ⟨g, 0, none⟩ := by
        have h := GS.out.rws.own 0 _ rfl
        obtain ⟨g, cap, e, _⟩ := own_some h (by show 1 ≤ G.length; rw [GN.out]; omega)
        simp at e
        exact ⟨g, e.1⟩
      obtain ⟨r, hr⟩ : ∃ r, G[i]? = some r := ⟨_, List.getElem?_eq_getElem (by have := GN.out; omega)⟩
      have hbr := GB.out i r (Nat.le_refl _) hr
      have GB1 : Hid (Bnd (i + 1) G) := fun k r hk => GB.out k r (by omega)
      obtain ⟨ra, p1, o, c1, O, p2, n2, c2, N⟩ := r
      have HB : Hid (o ≤ 140737488355328 ∧ n2 ≤ 140737488355328) := hbr
      have hob : o ≤ 140737488355328 := hbr.1
      have hnb2 : n2 ≤ 140737488355328 := hbr.2
      have HR := mkH hr
      clear hr hbr GB
      go_wp2_with fail
      go_loopg [3] o (fun m x4 wx => ∃ (j : Nat) (G : List Er) (O : List UInt8), x4 = .int .i64 (j : Int) ∧ j + m = o ∧ Hid (G.length = n) ∧ Hid (Bnd (i + 1) G) ∧ Hid (G[i]? = some ⟨ra, p1, o, c1, O, p2, n2, c2, N⟩) ∧ Hid (Spw w hi W0 wx (rowF (.slice (some ⟨g, 0, none⟩) n c) G)))
      case atStart => exact ⟨0, G, O, rfl, by omega, GN.out, GB1.out, HR.out, GS.out⟩
      case round =>
        clear GN GB1 HR GS
        obtain ⟨j, G, O, rfl, hjm, GN, GB1, HR, GS⟩ := hrel
        obtain ⟨go1, hgo1⟩ : ∃ g, g = gk - 1 := ⟨_, rfl⟩
        have hec := GS.out.ec GN.out HR.out
        have t1 := hec.e1
        have t2 := hec.e2
        clear hec
        by_cases hj : j < o
        · have hj0 : (0 : Int) ≤ (j : Int) := by omega
          have hj1 : (j : Int) < (o : Int) := by omega
          have hw4 : IntKind.i64.wrap ((j : Int) + 1) = ((j + 1 : Nat) : Int) := by rw [IntKind.wrap_i64]; omega
          obtain ⟨g1, e1, t3, f3⟩ := byte_at (GS.out.t1 HR.out) hj
          have e2 : p1 = some ⟨g1, 0, none⟩ := e1
          subst e2
          have hx := xr (at8 O j)
          have t4 : wr.cell? ⟨g1, j, none⟩ = some (.int .u8 ((at8 O j).toNat : Int)) := t3
          have GS2 := mkH (GS.out.byte1 HR.out j (at8 O j ^^^ 85))
          clear e1 t3 hj
          go_wp2
          go_roundg go1
          case measure => omega
          case rel => exact ⟨j + 1, _, _, by go_num, by omega, by unfold Hid; rw [List.length_set]; exact GN.out, GB1.out.set (by omega), set_self HR.out, GS2.out⟩
        · have hj1 : ¬ (j : Int) < (o : Int) := by omega
          clear hgo1 hjm hj
          go_wp2_with fail
          clear t1 t2 hj1
          go_loopg [4] n2 (fun m x5 wx => ∃ (j : Nat) (G : List Er) (N : List UInt8), x5 = .int .i64 (j : Int) ∧ j + m = n2 ∧ Hid (G.length = n) ∧ Hid (Bnd (i + 1) G) ∧ Hid (G[i]? = some ⟨ra, p1, o, c1, O, p2, n2, c2, N⟩) ∧ Hid (Spw w hi W0 wx (rowF (.slice (some ⟨g, 0, none⟩) n c) G)))
          case atStart => exact ⟨0, G, N, rfl, by omega, GN.out, GB1.out, HR.out, GS.out⟩
          case round =>
            clear GN GB1 HR GS
            obtain ⟨t, G, N, rfl, hjm, GN, GB1, HR, GS⟩ := hrel
            obtain ⟨go2, hgo2⟩ : ∃ g, g = gk - 1 := ⟨_, rfl⟩
            have hec := GS.out.ec GN.out HR.out
            have t1 := hec.e1
            have t2 := hec.e2
            clear hec
            by_cases hj : t < n2
            · have hj0 : (0 : Int) ≤ (t : Int) := by omega
              have hj1 : (t : Int) < (n2 : Int) := by omega
              have hw4 : IntKind.i64.wrap ((t : Int) + 1) = ((t + 1 : Nat) : Int) := by rw [IntKind.wrap_i64]; omega
              obtain ⟨g1, e1, t3, f3⟩ := byte_at (GS.out.t2 HR.out) hj
              have e2 : p2 = some ⟨g1, 0, none⟩ := e1
              subst e2
              have hx := xr51 (at8 N t)
              have t4 : wr.cell? ⟨g1, t, none⟩ = some (.int .u8 ((at8 N t).toNat : Int)) := t3
              have GS2 := mkH (GS.out.byte2 HR.out t (at8 N t ^^^ 51))
              clear e1 t3 hj
              go_wp2
              go_roundg go2
              case measure => omega
              case rel => exact ⟨t + 1, _, _, by go_num, by omega, by unfold Hid; rw [List.length_set]; exact GN.out, GB1.out.set (by omega), set_self HR.out, GS2.out⟩
            · have hj1 : ¬ (t : Int) < (n2 : Int) := by omega
              clear hgo2 hjm hj
              go_wp2_with fail
              clear t1 t2 hj1
              go_loopg [5] 40 (fun m x6 wx => ∃ (t : Nat) (G : List Er) (r : Er), x6 = .int .i64 (t : Int) ∧ t + m = 40 ∧ Hid (G.length = n) ∧ Hid (Bnd (i + 1) G) ∧ Hid (G[i]? = some r) ∧ Hid (r.o ≤ 140737488355328 + t ∧ r.n ≤ 140737488355328 + t) ∧ Hid (Spw w hi W0 wx (rowF (.slice (some ⟨g, 0, none⟩) n c) G)))
              case atStart => exact ⟨0, G, _, rfl, by omega, GN.out, GB1.out, HR.out, HB.out, GS.out⟩
              case round =>
                clear GN GB1 HR GS HB hob hnb2
                obtain ⟨t, G, ⟨ra, p1, o, c1, O, p2, n2, c2, N⟩, rfl, hjm, GN, GB1, HR, HB, GS⟩ := hrel
                obtain ⟨go3, hgo3⟩ : ∃ g, g = gk - 1 := ⟨_, rfl⟩
                have hec := GS.out.ec GN.out HR.out
                have EC := mkH hec
                clear hec
                by_cases hj : t < 40
                · have hj1 : (t : Int) < 40 := by omega
                  have hw4 : IntKind.i64.wrap ((t : Int) + 1) = ((t + 1 : Nat) : Int) := by rw [IntKind.wrap_i64]; omega
                  have hbb : o ≤ 140737488355328 + t ∧ n2 ≤ 140737488355328 + t := HB.out
                  have EI : Hid (i < n) := hi'
                  go_upto_region 14 with fail
                  have hS : (wr.drew).cell? ⟨g, i * 3 + 1, none⟩ = some (.slice p1 o c1) ∧ (wr.drew).cell? ⟨g, i * 3 + 2, none⟩ = some (.slice p2 n2 c2) := ⟨EC.out.e1, EC.out.e2⟩
                  have X0 := mkH (GS.out.drew.sq GN.out HR.out)
                  refine wp_region_late (S := fun w9 => w9.cell? ⟨g, i * 3 + 1, none⟩ = some (.slice p1 o c1) ∧ w9.cell? ⟨g, i * 3 + 2, none⟩ = some (.slice p2 n2 c2)) (n0 := 20) (by kernel_rfl) fun hsh => ?_
                  change wpLate _ _ _ _ _ _ _ _ _ wr.drew
                  generalize wr.drew = U0 at *
                  refine wpLate_take (i := 0) (v := .slice (some ⟨g, 0, none⟩) n c) rfl (by kernel_rfl) (by kernel_rfl) (by kernel_rfl) (by kernel_rfl) hsh rfl (fun _ _ _ h => h) (.inl ⟨rfl, fun w9 h9 => by obtain ⟨h1, h2⟩ := h9; go_simp⟩) hS fun hsh => ?_
                  try simp only [Act.put, jj1, jj2, jj3, jj4, jj5, jj6]
                  refine wpLate_take (i := 1) (v := .int .i64 (i : Int)) rfl (by kernel_rfl) (by kernel_rfl) (by kernel_rfl) (by kernel_rfl) hsh rfl (fun _ _ _ h => h) (.inl ⟨rfl, fun w9 h9 => by obtain ⟨h1, h2⟩ := h9; go_simp⟩) hS fun hsh => ?_
                  try simp only [Act.put, jj1, jj2, jj3, jj4, jj5, jj6]
                  refine wpLate_any' (i := 2) (v := .slice (some ⟨g, 0, none⟩) n c) rfl (by kernel_rfl) (by kernel_rfl) (by kernel_rfl) (by decide) hsh (fun _ _ _ h => h) (.inl ⟨rfl, fun w9 _ => by go_simp⟩) (fun _ => hS) fun hsh => ?_
                  try simp only [Act.put, jj1, jj2, jj3, jj4, jj5, jj6]
                  refine wpLate_any' (i := 3) (v := .int .i64 (i : Int)) rfl (by kernel_rfl) (by kernel_rfl) (by kernel_rfl) (by decide) hsh (fun _ _ _ h => h) (.inl ⟨rfl, fun w9 _ => by go_simp⟩) (fun _ => hS) fun hsh => ?_
                  try simp only [Act.put, jj1, jj2, jj3, jj4, jj5, jj6]
                  refine wpLate_take (i := 4) (v := .slice (some ⟨g, 0, none⟩) n c) rfl (by kernel_rfl) (by kernel_rfl) (by kernel_rfl) (by kernel_rfl) hsh rfl (fun _ _ _ h => h) (.inl ⟨rfl, fun w9 h9 => by obtain ⟨h1, h2⟩ := h9; go_simp⟩) hS fun hsh => ?_
                  try simp only [Act.put, jj1, jj2, jj3, jj4, jj5, jj6]
                  refine wpLate_take (i := 5) (v := .int .i64 (i : Int)) rfl (by kernel_rfl) (by kernel_rfl) (by kernel_rfl) (by kernel_rfl) hsh rfl (fun _ _ _ h => h) (.inl ⟨rfl, fun w9 h9 => by obtain ⟨h1, h2⟩ := h9; go_simp⟩) hS fun hsh => ?_
                  try simp only [Act.put, jj1, jj2, jj3, jj4, jj5, jj6]
                  refine wpLate_take (i := 6) (v := .pointer (some ⟨g, i * 3, none⟩)) rfl (by kernel_rfl) (by kernel_rfl) (by kernel_rfl) (by kernel_rfl) hsh rfl (fun _ _ _ h => h) (.inl ⟨rfl, fun w9 h9 => by obtain ⟨h1, h2⟩ := h9; go_simp⟩) hS fun hsh => ?_
                  try simp only [Act.put, jj1, jj2, jj3, jj4, jj5, jj6]
                  refine wpLate_take (i := 7) (v := .pointer (some ⟨g, i * 3 + 1, none⟩)) rfl (by kernel_rfl) (by kernel_rfl) (by kernel_rfl) (by kernel_rfl) hsh rfl (fun _ _ _ h => h) (.inl ⟨rfl, fun w9 h9 => by obtain ⟨h1, h2⟩ := h9; go_simp⟩) hS fun hsh => ?_
                  try simp only [Act.put, jj1, jj2, jj3, jj4, jj5, jj6]
                  refine wpLate_take (i := 8) (v := .slice p1 o c1) rfl (by kernel_rfl) (by kernel_rfl) (by kernel_rfl) (by kernel_rfl) hsh rfl (fun _ _ _ h => h) (.inl ⟨rfl, fun w9 h9 => by obtain ⟨h1, h2⟩ := h9; go_simp⟩) hS fun hsh => ?_
                  try simp only [Act.put, jj1, jj2, jj3, jj4, jj5, jj6]
                  refine wpLate_any' (i := 11) (v := .slice (some ⟨g, 0, none⟩) n c) rfl (by kernel_rfl) (by kernel_rfl) (by kernel_rfl) (by decide) hsh (fun _ _ _ h => h) (.inl ⟨rfl, fun w9 _ => by go_simp⟩) (fun _ => hS) fun hsh => ?_
                  try simp only [Act.put, jj1, jj2, jj3, jj4, jj5, jj6]
                  refine wpLate_any' (i := 12) (v := .int .i64 (i : Int)) rfl (by kernel_rfl) (by kernel_rfl) (by kernel_rfl) (by decide) hsh (fun _ _ _ h => h) (.inl ⟨rfl, fun w9 _ => by go_simp⟩) (fun _ => hS) fun hsh => ?_
                  try simp only [Act.put, jj1, jj2, jj3, jj4, jj5, jj6]
                  refine wpLate_any' (i := 13) (v := .pointer (some ⟨g, i * 3, none⟩)) rfl (by kernel_rfl) (by kernel_rfl) (by kernel_rfl) (by decide) hsh (fun _ _ _ h => h) (.inl ⟨rfl, fun w9 _ => by go_simp⟩) (fun _ => hS) fun hsh => ?_
                  try simp only [Act.put, jj1, jj2, jj3, jj4, jj5, jj6]
                  refine wpLate_take (i := 14) (v := .pointer (some ⟨g, i * 3 + 2, none⟩)) rfl (by kernel_rfl) (by kernel_rfl) (by kernel_rfl) (by kernel_rfl) hsh rfl (fun _ _ _ h => h) (.inl ⟨rfl, fun w9 h9 => by obtain ⟨h1, h2⟩ := h9; go_simp⟩) hS fun hsh => ?_
                  try simp only [Act.put, jj1, jj2, jj3, jj4, jj5, jj6]
                  refine wpLate_take (i := 15) (v := .slice p2 n2 c2) rfl (by kernel_rfl) (by kernel_rfl) (by kernel_rfl) (by kernel_rfl) hsh rfl (fun _ _ _ h => h) (.inl ⟨rfl, fun w9 h9 => by obtain ⟨h1, h2⟩ := h9; go_simp⟩) hS fun hsh => ?_
                  try simp only [Act.put, jj1, jj2, jj3, jj4, jj5, jj6]
                  refine wpLate_two (i := 9) (j := 16) (by kernel_rfl) rfl rfl rfl rfl (fun K hK => ?_) (fun K hK => ?_)
                  · skip
                    obtain ⟨RX1, hXX1⟩ := X0.out.m1
                    have X1 := mkH hXX1
                    go_simp
                    obtain ⟨g1, hg1⟩ : ∃ g, U0.heap.size = g := ⟨_, rfl⟩
                    have hal : (.cells (bv [1]).toArray 5 : Obj) = .cells #[.int .u8 1] 5 := rfl
                    rw [hal, hg1] at X1
                    rw [hg1]
                    clear hXX1 hal hg1
                    generalize U0.alloc (.cells #[.int .u8 1] 5) = U1 at *
                    have hS : U1.cell? ⟨g, i * 3 + 1, none⟩ = some (.slice p1 o c1) ∧ U1.cell? ⟨g, i * 3 + 2, none⟩ = some (.slice p2 n2 c2) := ⟨(X1.out.rd GN.out HR.out).e1, (X1.out.rd GN.out HR.out).e2⟩
                    refine hK _ _ (fun _ _ => hS) ?_
                    clear hK K
                    try simp only [Act.put, jj1, jj2, jj3, jj4, jj5, jj6]
                    refine wpLate_two (i := 10) (j := 16) (by kernel_rfl) rfl rfl rfl rfl (fun K hK => ?_) (fun K hK => ?_)
                    · skip
                      obtain ⟨p1', c1', U2, RX2, hr, hXX2⟩ := X1.out.p1 (show o + 1 ≤ 150000000000000 by omega) 70
                      have X2 := mkH hXX2
                      clear hXX2
                      refine lt_tx (.tmp 64) (.tmp 65) rfl (.slice p1 o c1) (.slice (some ⟨g1, 0, none⟩) 1 1) rfl rfl hr ?_
                      clear hr
                      have hS : U2.cell? ⟨g, i * 3 + 1, none⟩ = some (.slice p1 o c1) ∧ U2.cell? ⟨g, i * 3 + 2, none⟩ = some (.slice p2 n2 c2) := ⟨(X2.out.rd GN.out HR.out).e1, (X2.out.rd GN.out HR.out).e2⟩
                      refine hK _ _ (fun _ _ => hS) ?_
                      clear hK K
                      try simp only [Act.put, jj1, jj2, jj3, jj4, jj5, jj6]
                      refine wpLate_step (i := 16) (by kernel_rfl) rfl rfl fun K hK => ?_
                      obtain ⟨RX3, hXX3⟩ := X2.out.m2
                      have X3 := mkH hXX3
                      go_simp
                      obtain ⟨g2, hg2⟩ : ∃ g, U2.heap.size = g := ⟨_, rfl⟩
                      have hal : (.cells (bv [2]).toArray 5 : Obj) = .cells #[.int .u8 2] 5 := rfl
                      rw [hal, hg2] at X3
                      rw [hg2]
                      clear hXX3 hal hg2
                      generalize U2.alloc (.cells #[.int .u8 2] 5) = U3 at *
                      have hS : U3.cell? ⟨g, i * 3 + 1, none⟩ = some (.slice p1 o c1) ∧ U3.cell? ⟨g, i * 3 + 2, none⟩ = some (.slice p2 n2 c2) := ⟨(X3.out.rd GN.out HR.out).e1, (X3.out.rd GN.out HR.out).e2⟩
                      refine hK _ _ (fun _ _ => hS) ?_
                      clear hK K
                      try simp only [Act.put, jj1, jj2, jj3, jj4, jj5, jj6]
                      refine wpLate_step (i := 17) (by kernel_rfl) rfl rfl fun K hK => ?_
                      obtain ⟨p2', c2', V1, RY1, hr, hXY1⟩ := X3.out.p2 (show n2 + 1 ≤ 150000000000000 by omega) 70
                      have Y1 := mkH hXY1
                      clear hXY1
                      refine lt_tx (.tmp 71) (.tmp 72) rfl (.slice p2 n2 c2) (.slice (some ⟨g2, 0, none⟩) 1 1) rfl rfl hr ?_
                      clear hr
                      have hS : V1.cell? ⟨g, i * 3 + 1, none⟩ = some (.slice p1 o c1) ∧ V1.cell? ⟨g, i * 3 + 2, none⟩ = some (.slice p2 n2 c2) := ⟨(Y1.out.rd GN.out HR.out).e1, (Y1.out.rd GN.out HR.out).e2⟩
                      refine hK _ _ (fun _ _ => hS) ?_
                      clear hK K
                      try simp only [Act.put, jj1, jj2, jj3, jj4, jj5, jj6]
                      refine wpLate_any (i := 18) (v := .pointer (some ⟨g, i * 3, none⟩)) rfl (by kernel_rfl) (by kernel_rfl) (by kernel_rfl) (by decide) (fun _ _ _ h => h) (.inl ⟨rfl, fun w9 _ => by go_simp⟩) (fun _ => hS) ?_
                      try simp only [Act.put, jj1, jj2, jj3, jj4, jj5, jj6]
                      refine wpLate_any (i := 19) (v := .pointer (some ⟨g, i * 3 + 1, none⟩)) rfl (by kernel_rfl) (by kernel_rfl) (by kernel_rfl) (by decide) (fun _ _ _ h => h) (.inl ⟨rfl, fun w9 _ => by go_simp⟩) (fun _ => hS) ?_
                      try simp only [Act.put, jj1, jj2, jj3, jj4, jj5, jj6]
                      obtain ⟨⟨u1, hu1⟩, fz1⟩ := Y1.out.wr (j := i * 3 + 1) (by have := EI.out; omega) (by rw [ecs_len, GN.out])
                      obtain ⟨RZ1, hZ1⟩ := Y1.out.st (i * 3 + 1) (.slice p1' (o + 1) c1')
                      have Z1 := mkH hZ1
                      refine wpLate_step (i := 20) (by kernel_rfl) rfl rfl fun K hK => ?_
                      go_simp
                      refine hK _ _ (fun h => absurd rfl h) ?_
                      clear hK K hu1 fz1 hZ1
                      try simp only [Act.put, jj1, jj2, jj3, jj4, jj5, jj6]
                      generalize V1.setCell ⟨g, i * 3 + 1, none⟩ (.slice p1' (o + 1) c1') = V2 at *
                      refine wpLate_any (i := 21) (v := .pointer (some ⟨g, i * 3, none⟩)) rfl (by kernel_rfl) (by kernel_rfl) (by kernel_rfl) (by decide) (fun _ _ _ h => h) (.inl ⟨rfl, fun w9 _ => by go_simp⟩) (fun h => by cases h) ?_
                      try simp only [Act.put, jj1, jj2, jj3, jj4, jj5, jj6]
                      refine wpLate_any (i := 22) (v := .pointer (some ⟨g, i * 3 + 2, none⟩)) rfl (by kernel_rfl) (by kernel_rfl) (by kernel_rfl) (by decide) (fun _ _ _ h => h) (.inl ⟨rfl, fun w9 _ => by go_simp⟩) (fun h => by cases h) ?_
                      try simp only [Act.put, jj1, jj2, jj3, jj4, jj5, jj6]
                      obtain ⟨⟨u2, hu2⟩, fz2⟩ := Z1.out.wr (j := i * 3 + 2) (by have := EI.out; omega) (by rw [List.length_set, ecs_len, GN.out])
                      obtain ⟨RZ2, hZ2⟩ := Z1.out.st (i * 3 + 2) (.slice p2' (n2 + 1) c2')
                      have Z2 := mkH hZ2
                      refine wpLate_step (i := 23) (by kernel_rfl) rfl rfl fun K hK => ?_
                      go_simp
                      refine hK _ _ (fun _ h => by cases h) ?_
                      clear hK K hu2 fz2 hZ2
                      try simp only [Act.put, jj1, jj2, jj3, jj4, jj5, jj6]
                      generalize V2.setCell ⟨g, i * 3 + 2, none⟩ (.slice p2' (n2 + 1) c2') = V3 at *
                      refine wpLate_done (by kernel_rfl) ?_
                      have GS9 := mkH (Sq.fin GN.out HR.out Z2.out)
                      clear X0 Y1 Z1 Z2 hS EC
                      go_wp2
                      go_roundg go3
                      case measure => omega
                      case rel => exact ⟨t + 1, _, _, by go_num, by omega, by unfold Hid; rw [List.length_set]; exact GN.out, GB1.out.set (by omega), set_self HR.out, ⟨by show o + 1 ≤ _; omega, by show n2 + 1 ≤ _; omega⟩, GS9.out⟩
                    · skip
                      obtain ⟨RX2, hXX2⟩ := X1.out.m2
                      have X2 := mkH hXX2
                      go_simp
                      obtain ⟨g2, hg2⟩ : ∃ g, U1.heap.size = g := ⟨_, rfl⟩
                      have hal : (.cells (bv [2]).toArray 5 : Obj) = .cells #[.int .u8 2] 5 := rfl
                      rw [hal, hg2] at X2
                      rw [hg2]
                      clear hXX2 hal hg2
                      generalize U1.alloc (.cells #[.int .u8 2] 5) = U2 at *
                      have hS : U2.cell? ⟨g, i * 3 + 1, none⟩ = some (.slice p1 o c1) ∧ U2.cell? ⟨g, i * 3 + 2, none⟩ = some (.slice p2 n2 c2) := ⟨(X2.out.rd GN.out HR.out).e1, (X2.out.rd GN.out HR.out).e2⟩
                      refine hK _ _ (fun _ _ => hS) ?_
                      clear hK K
                      try simp only [Act.put, jj1, jj2, jj3, jj4, jj5, jj6]
                      refine wpLate_step (i := 10) (by kernel_rfl) rfl rfl fun K hK => ?_
                      obtain ⟨p1', c1', U3, RX3, hr, hXX3⟩ := X2.out.p1 (show o + 1 ≤ 150000000000000 by omega) 70
                      have X3 := mkH hXX3
                      clear hXX3
                      refine lt_tx (.tmp 64) (.tmp 65) rfl (.slice p1 o c1) (.slice (some ⟨g1, 0, none⟩) 1 1) rfl rfl hr ?_
                      clear hr
                      have hS : U3.cell? ⟨g, i * 3 + 1, none⟩ = some (.slice p1 o c1) ∧ U3.cell? ⟨g, i * 3 + 2, none⟩ = some (.slice p2 n2 c2) := ⟨(X3.out.rd GN.out HR.out).e1, (X3.out.rd GN.out HR.out).e2⟩
                      refine hK _ _ (fun _ _ => hS) ?_
                      clear hK K
                      try simp only [Act.put, jj1, jj2, jj3, jj4, jj5, jj6]
                      refine wpLate_step (i := 17) (by kernel_rfl) rfl rfl fun K hK => ?_
                      obtain ⟨p2', c2', V1, RY1, hr, hXY1⟩ := X3.out.p2 (show n2 + 1 ≤ 150000000000000 by omega) 70
                      have Y1 := mkH hXY1
                      clear hXY1
                      refine lt_tx (.tmp 71) (.tmp 72) rfl (.slice p2 n2 c2) (.slice (some ⟨g2, 0, none⟩) 1 1) rfl rfl hr ?_
                      clear hr
                      have hS : V1.cell? ⟨g, i * 3 + 1, none⟩ = some (.slice p1 o c1) ∧ V1.cell? ⟨g, i * 3 + 2, none⟩ = some (.slice p2 n2 c2) := ⟨(Y1.out.rd GN.out HR.out).e1, (Y1.out.rd GN.out HR.out).e2⟩
                      refine hK _ _ (fun _ _ => hS) ?_
                      clear hK K
                      try simp only [Act.put, jj1, jj2, jj3, jj4, jj5, jj6]
                      refine wpLate_any (i := 18) (v := .pointer (some ⟨g, i * 3, none⟩)) rfl (by kernel_rfl) (by kernel_rfl) (by kernel_rfl) (by decide) (fun _ _ _ h => h) (.inl ⟨rfl, fun w9 _ => by go_simp⟩) (fun _ => hS) ?_
                      try simp only [Act.put, jj1, jj2, jj3, jj4, jj5, jj6]
                      refine wpLate_any (i := 19) (v := .pointer (some ⟨g, i * 3 + 1, none⟩)) rfl (by kernel_rfl) (by kernel_rfl) (by kernel_rfl) (by decide) (fun _ _ _ h => h) (.inl ⟨rfl, fun w9 _ => by go_simp⟩) (fun _ => hS) ?_
                      try simp only [Act.put, jj1, jj2, jj3, jj4, jj5, jj6]
                      obtain ⟨⟨u1, hu1⟩, fz1⟩ := Y1.out.wr (j := i * 3 + 1) (by have := EI.out; omega) (by rw [ecs_len, GN.out])
                      obtain ⟨RZ1, hZ1⟩ := Y1.out.st (i * 3 + 1) (.slice p1' (o + 1) c1')
                      have Z1 := mkH hZ1
                      refine wpLate_step (i := 20) (by kernel_rfl) rfl rfl fun K hK => ?_
                      go_simp
                      refine hK _ _ (fun h => absurd rfl h) ?_
                      clear hK K hu1 fz1 hZ1
                      try simp only [Act.put, jj1, jj2, jj3, jj4, jj5, jj6]
                      generalize V1.setCell ⟨g, i * 3 + 1, none⟩ (.slice p1' (o + 1) c1') = V2 at *
                      refine wpLate_any (i := 21) (v := .pointer (some ⟨g, i * 3, none⟩)) rfl (by kernel_rfl) (by kernel_rfl) (by kernel_rfl) (by decide) (fun _ _ _ h => h) (.inl ⟨rfl, fun w9 _ => by go_simp⟩) (fun h => by cases h) ?_
                      try simp only [Act.put, jj1, jj2, jj3, jj4, jj5, jj6]
                      refine wpLate_any (i := 22) (v := .pointer (some ⟨g, i * 3 + 2, none⟩)) rfl (by kernel_rfl) (by kernel_rfl) (by kernel_rfl) (by decide) (fun _ _ _ h => h) (.inl ⟨rfl, fun w9 _ => by go_simp⟩) (fun h => by cases h) ?_
                      try simp only [Act.put, jj1, jj2, jj3, jj4, jj5, jj6]
                      obtain ⟨⟨u2, hu2⟩, fz2⟩ := Z1.out.wr (j := i * 3 + 2) (by have := EI.out; omega) (by rw [List.length_set, ecs_len, GN.out])
                      obtain ⟨RZ2, hZ2⟩ := Z1.out.st (i * 3 + 2) (.slice p2' (n2 + 1) c2')
                      have Z2 := mkH hZ2
                      refine wpLate_step (i := 23) (by kernel_rfl) rfl rfl fun K hK => ?_
                      go_simp
                      refine hK _ _ (fun _ h => by cases h) ?_
                      clear hK K hu2 fz2 hZ2
                      try simp only [Act.put, jj1, jj2, jj3, jj4, jj5, jj6]
                      generalize V2.setCell ⟨g, i * 3 + 2, none⟩ (.slice p2' (n2 + 1) c2') = V3 at *
                      refine wpLate_done (by kernel_rfl) ?_
                      have GS9 := mkH (Sq.fin GN.out HR.out Z2.out)
                      clear X0 Y1 Z1 Z2 hS EC
                      go_wp2
                      go_roundg go3
                      case measure => omega
                      case rel => exact ⟨t + 1, _, _, by go_num, by omega, by unfold Hid; rw [List.length_set]; exact GN.out, GB1.out.set (by omega), set_self HR.out, ⟨by show o + 1 ≤ _; omega, by show n2 + 1 ≤ _; omega⟩, GS9.out⟩
                  · skip
                    obtain ⟨RX1, hXX1⟩ := X0.out.m2
                    have X1 := mkH hXX1
                    go_simp
                    obtain ⟨g2, hg2⟩ : ∃ g, U0.heap.size = g := ⟨_, rfl⟩
                    have hal : (.cells (bv [2]).toArray 5 : Obj) = .cells #[.int .u8 2] 5 := rfl
                    rw [hal, hg2] at X1
                    rw [hg2]
                    clear hXX1 hal hg2
                    generalize U0.alloc (.cells #[.int .u8 2] 5) = U1 at *
                    have hS : U1.cell? ⟨g, i * 3 + 1, none⟩ = some (.slice p1 o c1) ∧ U1.cell? ⟨g, i * 3 + 2, none⟩ = some (.slice p2 n2 c2) := ⟨(X1.out.rd GN.out HR.out).e1, (X1.out.rd GN.out HR.out).e2⟩
                    refine hK _ _ (fun _ _ => hS) ?_
                    clear hK K
                    try simp only [Act.put, jj1, jj2, jj3, jj4, jj5, jj6]
                    refine wpLate_step (i := 9) (by kernel_rfl) rfl rfl fun K hK => ?_
                    obtain ⟨RX2, hXX2⟩ := X1.out.m1
                    have X2 := mkH hXX2
                    go_simp
                    obtain ⟨g1, hg1⟩ : ∃ g, U1.heap.size = g := ⟨_, rfl⟩
                    have hal : (.cells (bv [1]).toArray 5 : Obj) = .cells #[.int .u8 1] 5 := rfl
                    rw [hal, hg1] at X2
                    rw [hg1]
                    clear hXX2 hal hg1
                    generalize U1.alloc (.cells #[.int .u8 1] 5) = U2 at *
                    have hS : U2.cell? ⟨g, i * 3 + 1, none⟩ = some (.slice p1 o c1) ∧ U2.cell? ⟨g, i * 3 + 2, none⟩ = some (.slice p2 n2 c2) := ⟨(X2.out.rd GN.out HR.out).e1, (X2.out.rd GN.out HR.out).e2⟩
                    refine hK _ _ (fun _ _ => hS) ?_
                    clear hK K
                    try simp only [Act.put, jj1, jj2, jj3, jj4, jj5, jj6]
                    refine wpLate_step (i := 10) (by kernel_rfl) rfl rfl fun K hK => ?_
                    obtain ⟨p1', c1', U3, RX3, hr, hXX3⟩ := X2.out.p1 (show o + 1 ≤ 150000000000000 by omega) 70
                    have X3 := mkH hXX3
                    clear hXX3
                    refine lt_tx (.tmp 64) (.tmp 65) rfl (.slice p1 o c1) (.slice (some ⟨g1, 0, none⟩) 1 1) rfl rfl hr ?_
                    clear hr
                    have hS : U3.cell? ⟨g, i * 3 + 1, none⟩ = some (.slice p1 o c1) ∧ U3.cell? ⟨g, i * 3 + 2, none⟩ = some (.slice p2 n2 c2) := ⟨(X3.out.rd GN.out HR.out).e1, (X3.out.rd GN.out HR.out).e2⟩
                    refine hK _ _ (fun _ _ => hS) ?_
                    clear hK K
                    try simp only [Act.put, jj1, jj2, jj3, jj4, jj5, jj6]
                    refine wpLate_step (i := 17) (by kernel_rfl) rfl rfl fun K hK => ?_
                    obtain ⟨p2', c2', V1, RY1, hr, hXY1⟩ := X3.out.p2 (show n2 + 1 ≤ 150000000000000 by omega) 70
                    have Y1 := mkH hXY1
                    clear hXY1
                    refine lt_tx (.tmp 71) (.tmp 72) rfl (.slice p2 n2 c2) (.slice (some ⟨g2, 0, none⟩) 1 1) rfl rfl hr ?_
                    clear hr
                    have hS : V1.cell? ⟨g, i * 3 + 1, none⟩ = some (.slice p1 o c1) ∧ V1.cell? ⟨g, i * 3 + 2, none⟩ = some (.slice p2 n2 c2) := ⟨(Y1.out.rd GN.out HR.out).e1, (Y1.out.rd GN.out HR.out).e2⟩
                    refine hK _ _ (fun _ _ => hS) ?_
                    clear hK K
                    try simp only [Act.put, jj1, jj2, jj3, jj4, jj5, jj6]
                    refine wpLate_any (i := 18) (v := .pointer (some ⟨g, i * 3, none⟩)) rfl (by kernel_rfl) (by kernel_rfl) (by kernel_rfl) (by decide) (fun _ _ _ h => h) (.inl ⟨rfl, fun w9 _ => by go_simp⟩) (fun _ => hS) ?_
                    try simp only [Act.put, jj1, jj2, jj3, jj4, jj5, jj6]
                    refine wpLate_any (i := 19) (v := .pointer (some ⟨g, i * 3 + 1, none⟩)) rfl (by kernel_rfl) (by kernel_rfl) (by kernel_rfl) (by decide) (fun _ _ _ h => h) (.inl ⟨rfl, fun w9 _ => by go_simp⟩) (fun _ => hS) ?_
                    try simp only [Act.put, jj1, jj2, jj3, jj4, jj5, jj6]
                    obtain ⟨⟨u1, hu1⟩, fz1⟩ := Y1.out.wr (j := i * 3 + 1) (by have := EI.out; omega) (by rw [ecs_len, GN.out])
                    obtain ⟨RZ1, hZ1⟩ := Y1.out.st (i * 3 + 1) (.slice p1' (o + 1) c1')
                    have Z1 := mkH hZ1
                    refine wpLate_step (i := 20) (by kernel_rfl) rfl rfl fun K hK => ?_
                    go_simp
                    refine hK _ _ (fun h => absurd rfl h) ?_
                    clear hK K hu1 fz1 hZ1
                    try simp only [Act.put, jj1, jj2, jj3, jj4, jj5, jj6]
                    generalize V1.setCell ⟨g, i * 3 + 1, none⟩ (.slice p1' (o + 1) c1') = V2 at *
                    refine wpLate_any (i := 21) (v := .pointer (some ⟨g, i * 3, none⟩)) rfl (by kernel_rfl) (by kernel_rfl) (by kernel_rfl) (by decide) (fun _ _ _ h => h) (.inl ⟨rfl, fun w9 _ => by go_simp⟩) (fun h => by cases h) ?_
                    try simp only [Act.put, jj1, jj2, jj3, jj4, jj5, jj6]
                    refine wpLate_any (i := 22) (v := .pointer (some ⟨g, i * 3 + 2, none⟩)) rfl (by kernel_rfl) (by kernel_rfl) (by kernel_rfl) (by decide) (fun _ _ _ h => h) (.inl ⟨rfl, fun w9 _ => by go_simp⟩) (fun h => by cases h) ?_
                    try simp only [Act.put, jj1, jj2, jj3, jj4, jj5, jj6]
                    obtain ⟨⟨u2, hu2⟩, fz2⟩ := Z1.out.wr (j := i * 3 + 2) (by have := EI.out; omega) (by rw [List.length_set, ecs_len, GN.out])
                    obtain ⟨RZ2, hZ2⟩ := Z1.out.st (i * 3 + 2) (.slice p2' (n2 + 1) c2')
                    have Z2 := mkH hZ2
                    refine wpLate_step (i := 23) (by kernel_rfl) rfl rfl fun K hK => ?_
                    go_simp
                    refine hK _ _ (fun _ h => by cases h) ?_
                    clear hK K hu2 fz2 hZ2
                    try simp only [Act.put, jj1, jj2, jj3, jj4, jj5, jj6]
                    generalize V2.setCell ⟨g, i * 3 + 2, none⟩ (.slice p2' (n2 + 1) c2') = V3 at *
                    refine wpLate_done (by kernel_rfl) ?_
                    have GS9 := mkH (Sq.fin GN.out HR.out Z2.out)
                    clear X0 Y1 Z1 Z2 hS EC
                    go_wp2
                    go_roundg go3
                    case measure => omega
                    case rel => exact ⟨t + 1, _, _, by go_num, by omega, by unfold Hid; rw [List.length_set]; exact GN.out, GB1.out.set (by omega), set_self HR.out, ⟨by show o + 1 ≤ _; omega, by show n2 + 1 ≤ _; omega⟩, GS9.out⟩
                · have hj1 : ¬ (t : Int) < 40 := by omega
                  have x0 : wr.cell? ⟨g, i * 3, none⟩ = some (.int .i64 ra) := EC.out.e0
                  have f0 := EC.out.f (i * 3)
                  have S2 := mkH (GS.out.place GN.out HR.out (-7))
                  clear hgo3 hjm hj EC
                  go_wp2
                  go_roundg go
                  case measure => omega
                  case rel => exact ⟨i + 1, _, by go_num, by omega, by unfold Hid; rw [List.length_set]; exact GN.out, GB1.out.set (by omega), S2.out⟩
    · have hi1 : ¬ (i : Int) < (n : Int) := by omega
      have KP := mkH GS.out.kept
      clear hgo him hi' GS GB
      go_wp2
      go_end0
      exact ⟨⟨_, rfl⟩, KP.out⟩
end Go.Proofs.Ytaahklapoppgaaa

