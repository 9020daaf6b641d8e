/- A range over a function whose iterator keeps cells of its own: what iterator and rounds promise each other, and the law of the loop. No conditions. -/
import Derived.RangeFuncNested
import Derived.RangeFuncBound
import Derived.RangeFuncCalls
import Derived.RangeFuncLeaves
namespace Go.Proofs.Ytaahklapoppgaaa
open Go Go.RowKit

/-- What lies outside [lo, hi) lies on. -/
structure Kept (lo hi : Nat) (A B : World) : Prop where
  os : B.os = A.os
  tape : B.tape = A.tape
  output : B.output = A.output
  size : A.heap.size ≤ B.heap.size
  block : ∀ k, k < A.heap.size → (k < lo ∨ hi ≤ k) → B.heap[k]? = A.heap[k]?

/-- The round's word: what lies at the places N and in [lo, hi) lies on. -/
structure Rnd (N : Nat → Prop) (lo hi : Nat) (A B : World) : Prop where
  size : A.heap.size ≤ B.heap.size
  block : ∀ k, k < A.heap.size → (N k ∨ lo ≤ k ∧ k < hi) → B.heap[k]? = A.heap[k]?

def Stab {β : Type} (lo hi : Nat) (I : β → World → Prop) : Prop := ∀ s A B, I s A → Kept lo hi A B → I s B

theorem Kept.refl (lo hi : Nat) (A : World) : Kept lo hi A A := ⟨rfl, rfl, rfl, Nat.le_refl _, fun _ _ _ => rfl⟩
theorem Kept.wide {lo hi lo' hi' : Nat} {A B : World} (h : Kept lo hi A B) (h1 : lo' ≤ lo) (h2 : hi ≤ hi') : Kept lo' hi' A B :=
  ⟨h.os, h.tape, h.output, h.size, fun k hk hr => h.block k hk (by omega)⟩
theorem Kept.trans {lo hi : Nat} {A B C : World} (h : Kept lo hi A B) (g : Kept lo hi B C) : Kept lo hi A C :=
  ⟨g.os.trans h.os, g.tape.trans h.tape, g.output.trans h.output, Nat.le_trans h.size g.size, fun k hk hr => (g.block k (by have := h.size; omega) hr).trans (h.block k hk hr)⟩
theorem Kept.below {lo hi : Nat} {A B : World} (h : Kept lo hi A B) (hs : lo ≤ A.heap.size) : Below lo A B :=
  ⟨h.os, h.tape, h.output, h.size, fun k hk => h.block k (by omega) (.inl hk)⟩
theorem Rnd.refl (N : Nat → Prop) (lo hi : Nat) (A : World) : Rnd N lo hi A A := ⟨Nat.le_refl _, fun _ _ _ => rfl⟩
theorem Rnd.trans {N : Nat → Prop} {lo hi : Nat} {A B C : World} (h : Rnd N lo hi A B) (g : Rnd N lo hi B C) : Rnd N lo hi A C :=
  ⟨Nat.le_trans h.size g.size, fun k hk hr => (g.block k (by have := h.size; omega) hr).trans (h.block k hk hr)⟩
theorem Rnd.less {N N' : Nat → Prop} {lo hi lo' hi' : Nat} {A B : World} (h : Rnd N lo hi A B) (h0 : ∀ k, N' k → N k) (h1 : lo ≤ lo') (h2 : hi' ≤ hi) : Rnd N' lo' hi' A B :=
  ⟨h.size, fun k hk hr => h.block k hk (hr.imp (h0 k) (fun h => by omega))⟩
/-- A call that keeps all that lay is a round's step. -/
theorem Rnd.of_below {N : Nat → Prop} {lo hi m : Nat} {A B : World} (h : Below m A B) (h0 : ∀ k, N k → k < m) (h1 : hi ≤ m) : Rnd N lo hi A B :=
  ⟨h.size, fun k _ hr => h.block k (hr.elim (h0 k) (fun h => by omega))⟩
theorem Kept.of_below {lo hi m : Nat} {A B : World} (h : Below m A B) (hm : A.heap.size ≤ m) : Kept lo hi A B :=
  ⟨h.os, h.tape, h.output, h.size, fun k hk _ => h.block k (by omega)⟩

theorem Rnd.alloc (N : Nat → Prop) (lo hi : Nat) (W : World) (o : Obj) : Rnd N lo hi W (W.alloc o) := ⟨by simp, fun k hk _ => Below.heap_alloc W o k hk⟩
theorem Kept.alloc (lo hi : Nat) (W : World) (o : Obj) : Kept lo hi W (W.alloc o) := ⟨rfl, rfl, rfl, by simp, fun k hk _ => Below.heap_alloc W o k hk⟩
theorem Rnd.put {N : Nat → Prop} {lo hi : Nat} (W : World) (l : Nat) (o : Obj) (h0 : ¬ N l) (h1 : l < lo ∨ hi ≤ l) : Rnd N lo hi W (W.putObj l o) :=
  ⟨by simp, fun k _ hr => World.putObj_heap_other (fun e => by subst e; rcases hr with h | h; exact h0 h; omega)⟩
theorem Kept.put {lo hi : Nat} (W : World) (l : Nat) (o : Obj) (h0 : lo ≤ l) (h1 : l < hi) : Kept lo hi W (W.putObj l o) :=
  ⟨rfl, rfl, rfl, by simp, fun k _ hr => World.putObj_heap_other (by omega)⟩
theorem Rnd.setCell {N : Nat → Prop} {lo hi : Nat} (W : World) (a : Addr) (v : Value) (h0 : ¬ N a.block) (h1 : a.block < lo ∨ hi ≤ a.block) : Rnd N lo hi W (W.setCell a v) :=
  ⟨by show W.heap.size ≤ (W.heap.modify _ _).size; rw [Array.size_modify]; exact Nat.le_refl _, fun k _ hr => Below.heap_setCell W a v k (fun e => by subst e; rcases hr with h | h; exact h0 h; omega)⟩
theorem Kept.setCell {lo hi : Nat} (W : World) (a : Addr) (v : Value) (h0 : lo ≤ a.block) (h1 : a.block < hi) : Kept lo hi W (W.setCell a v) :=
  ⟨rfl, rfl, rfl, by show W.heap.size ≤ (W.heap.modify _ _).size; rw [Array.size_modify]; exact Nat.le_refl _, fun k _ hr => Below.heap_setCell W a v k (by omega)⟩

/-- An iterator that lays c blocks of its own at its beginning, hands on xs with their places, and reads what lies below n₀. -/
def SeqC {α : Type} (F : Fence) (P : Program) (g : Nat) (lb : Array Value) (encs : Nat → α → Array Value) (c : Nat) (N : Nat → Prop) (xs : List α) (w : World) : Prop :=
  ∀ (n l : Nat) (J Jx : List α → World → Prop) (W : World), Below w.heap.size w W → Stab W.heap.size (W.heap.size + c) J → Stab W.heap.size (W.heap.size + c) Jx →
    (∀ m pre x W1, J pre W1 → W.heap.size + c ≤ W1.heap.size → pre ++ [x] <+: xs → YieldAt F m P l (encs pre.length x) W1 fun e W' =>
      (e = .returned (.bool true) ∧ J (pre ++ [x]) W' ∧ Rnd N W.heap.size (W.heap.size + c) W1 W') ∨ (e = .returned (.bool false) ∧ Jx (pre ++ [x]) W' ∧ Rnd N W.heap.size (W.heap.size + c) W1 W')) →
    J [] W →
    CallsIn F n P g (#[.func (.yield l) #[] #[]] ++ lb) W fun e W' => (∃ v, e = .returned v) ∧ (J xs W' ∨ (∃ pre, pre <+: xs ∧ Jx pre W'))

theorem SeqC.inRound {α : Type} {F : Fence} {P : Program} {g : Nat} {lb : Array Value} {encs : Nat → α → Array Value} {c : Nat} {N : Nat → Prop} {xs : List α} {w : World} (l : Nat)
    (h : SeqC F P g lb encs c N xs w) : SeqC (F.inRound l) P g lb encs c N xs w := h

/-- How the body of a round may be left. -/
def ringPost {α : Type} (N : Nat → Prop) (lo hi : Nat) (I : List α → World → Prop) (Ix : Code → List α → World → Prop) (xs : List α) (W : World) : Exit → Act → World → Prop
  | .normal, _, W' => Rnd N lo hi W W' ∧ I xs W'
  | .ret, _, W' => Rnd N lo hi W W' ∧ Ix .ret xs W'
  | .exit id, _, W' => Rnd N lo hi W W' ∧ Ix (.exit id) xs W'
  | .goto t, _, W' => Rnd N lo hi W W' ∧ Ix (.goto t) xs W'
  | .panic _, _, _ => False
  | .outgrown, _, _ => False

theorem room_free {F : Fence} (hd : F.depth = none) (k : Nat) : F.room k := fun d h => by rw [hd] at h; cases h
theorem round_free {F : Fence} (hd : F.depth = none) {m m' : Nat} {P : Program} {l : Nat} {f : FuncId} {tmps : Array Value} {assign body : Code} {w : World} {R : Ending → World → Prop}
    (h : RoundIn F m P l f tmps assign body w R) : RoundIn F m' P l f tmps assign body w R := ⟨h.1, fun c cs _ => h.2 c cs (room_free hd _)⟩
theorem yield_free {F : Fence} (hd : F.depth = none) {m : Nat} (m' : Nat) {P : Program} {l : Nat} {args : Array Value} {W : World} {R : Ending → World → Prop} (h : YieldAt F m P l args W R) : YieldAt F m' P l args W R := by
  obtain ⟨fn, tmps, assign, body, hy, hR⟩ := h
  exact ⟨fn, tmps, assign, body, hy, round_free hd hR⟩

/-- The law of the loop, outside of any round. -/
theorem wpIn_ring {α : Type} {F : Fence} {n : Nat} {P : Program} {g : Operand} {ps : Array Tmp} {assign body : Code} {Q : Exit → Act → World → Prop} {a : Act} {w : World}
    (hd : F.depth = none) (hro : F.round = none) {gf : Nat} {lb : Array Value} (hg : a.eval g = .func (.func gf) #[] lb) (hFg : F.fn gf) (eg : ∀ args w, (callFunc gf args).run P w = .ok (.enter gf args) w)
    {encs : Nat → α → Array Value} {c : Nat} {N : Nat → Prop} {xs : List α} {w0 : World} (hseq : SeqC F P gf lb encs c N xs w0)
    (hb0 : Below w0.heap.size w0 w) (hn0 : ∀ k, N k → k < w.heap.size) (hps : ∀ i x, (encs i x).size = ps.size)
    (I : List α → World → Prop) (Ix : Code → List α → World → Prop) (hI : Stab w.heap.size (w.heap.size + 2 + c) I) (hIx : ∀ c', Stab w.heap.size (w.heap.size + 2 + c) (Ix c')) (h0 : I [] w)
    (Ax : List α → α → Act → World → Prop) (hAx : ∀ pre x a', Stab w.heap.size (w.heap.size + 2 + c) (fun (_ : Unit) W => Ax pre x a' W))
    (hassign : ∀ (l : Nat) (pre : List α) (x : α) (W : World) (K : Act → World → Prop), I pre W → w.heap.size + 2 + c ≤ W.heap.size → pre ++ [x] <+: xs → (∀ a' W', Rnd N w.heap.size (w.heap.size + 2 + c) W W' → I pre W' → Ax pre x a' W' → K a' W') →
      assign.wpIn (F.inRound l) (n - 1 - 1) P (Exit.then K (fun _ _ _ => False)) { tmps := (ps.zip (encs pre.length x)).foldl (fun t (p, v) => t.setIfInBounds p v) a.tmps, defers := [] } W)
    (hbody : ∀ (l : Nat) (pre : List α) (x : α) (a' : Act) (W : World), l = w.heap.size + 1 → (∃ r, W.heap[l]? = some (.loop r)) → I pre W → w.heap.size + 2 + c ≤ W.heap.size → Ax pre x a' W → pre ++ [x] <+: xs → body.wpIn (F.inRound l) (n - 1 - 1) P (ringPost N w.heap.size (w.heap.size + 2 + c) I Ix (pre ++ [x]) W) a' W)
    (hdone : ∀ (W : World), I xs W → W.heap[w.heap.size]? = some (.deferred (some [])) → Q .normal { a with defers := { target := .collected w.heap.size, args := #[] } :: a.defers } W)
    (hstop : ∀ (c' : Code) (pre : List α) (W : World), pre <+: xs → Ix c' pre W → W.heap[w.heap.size]? = some (.deferred (some [])) → c'.wpIn F n P Q { a with defers := { target := .collected w.heap.size, args := #[] } :: a.defers } W) :
    (Code.rangeFunc g ps assign body).wpIn F n P Q a w := by
  refine wpIn_rangeFunc ?_
  intro fn hfn
  rw [hro]
  obtain ⟨rec, hrec⟩ : ∃ rec : LoopState → Option Code → Loop, rec = fun st pe => { state := st, pending := pe, fn, tmps := a.tmps, params := ps, assign, body, defers := w.heap.size } := ⟨_, rfl⟩
  obtain ⟨W1, hW1⟩ : ∃ W1, (w.alloc (.deferred (some []))).alloc (.loop (rec .ready none)) = W1 := ⟨_, rfl⟩
  have hs1 : W1.heap.size = w.heap.size + 2 := by rw [← hW1]; simp
  have hL1 : W1.heap[w.heap.size + 1]? = some (.loop (rec .ready none)) := by
    rw [← hW1]; have := World.alloc_heap_new (w.alloc (.deferred (some []))) (.loop (rec .ready none)); rwa [World.size_alloc] at this
  have hK1 : W1.heap[w.heap.size]? = some (.deferred (some [])) := by
    rw [← hW1]; exact (Below.heap_alloc _ _ _ (by simp)).trans (World.alloc_heap_new w _)
  have hI1 : I [] W1 := by rw [← hW1]; exact hI _ _ _ h0 ((Kept.alloc _ _ _ _).trans (Kept.alloc _ _ _ _))
  have hb1 : Below w0.heap.size w0 W1 := by
    rw [← hW1]; exact hb0.trans ((((Below.refl _ w).alloc (Nat.le_refl _) _).alloc (by simp) _).mono hb0.size)
  refine ⟨w.heap.size + 1, [{ target := .collected w.heap.size, args := #[] }], W1, { target := .fn (.func gf) lb, args := #[.func (.yield (w.heap.size + 1)) #[] #[]] }, W1, gf,
    #[.func (.yield (w.heap.size + 1)) #[] #[]] ++ lb, W1, ?_, ?_, ?_, ?_, fun h => (by rw [hd] at h; cases h), ?_⟩
  · rw [← hW1, hrec]; exact run_enterLoop_outer _ _ _ _ _
  · simp only [resolve, hg]
    simp [go_sem]
  · intro f' hf'; simp [Target.leads] at hf'; subst hf'; exact hFg
  · simp [invoke, go_sem, eg]
  · refine (hseq (n - 1) (w.heap.size + 1)
      (fun pre W => I pre W ∧ W.heap[w.heap.size + 1]? = some (.loop (rec .ready none)) ∧ W.heap[w.heap.size]? = some (.deferred (some [])))
      (fun pre W => ∃ c', Ix c' pre W ∧ W.heap[w.heap.size + 1]? = some (.loop (rec .done (some c'))) ∧ W.heap[w.heap.size]? = some (.deferred (some [])))
      W1 hb1
      (fun s A B hs hk => ⟨hI s A B hs.1 (hk.wide (by omega) (by omega)), (hk.block _ (Array.getElem?_eq_some_iff.1 hs.2.1).1 (by omega)).trans hs.2.1, (hk.block _ (Array.getElem?_eq_some_iff.1 hs.2.2).1 (by omega)).trans hs.2.2⟩)
      (fun s A B hs hk => by
        obtain ⟨c', hc, hl, hk'⟩ := hs
        exact ⟨c', hIx c' s A B hc (hk.wide (by omega) (by omega)), (hk.block _ (Array.getElem?_eq_some_iff.1 hl).1 (by omega)).trans hl, (hk.block _ (Array.getElem?_eq_some_iff.1 hk').1 (by omega)).trans hk'⟩)
      ?_ ⟨hI1, hL1, hK1⟩).mono ?_
    · -- one round
      rintro m pre x W ⟨hi, hl, hk⟩ hbig hpre
      have hlt : w.heap.size + 1 < W.heap.size := (Array.getElem?_eq_some_iff.1 hl).1
      have hy := run_yield (P := P) (args := encs pre.length x) hl (by rw [hrec]; exact hps _ x)
      rw [hrec] at hy
      refine yield_free hd (m := n - 1 - 1) m ⟨fn, _, assign, body, hy, roundIn_of_wpIn hfn (hassign _ pre x W _ hi (by omega) hpre ?_)⟩
      clear hy
      intro a' Wa hra hia hax
      have hla := (hra.block _ (by omega) (by omega)).trans hl
      have hka := (hra.block _ (by omega) (by omega)).trans hk
      have hlta : w.heap.size + 1 < Wa.heap.size := (Array.getElem?_eq_some_iff.1 hla).1
      refine ⟨_, run_beginRound hla (by rw [hrec]), ?_⟩
      have hl2 : (Wa.putObj (w.heap.size + 1) (.loop { rec .ready none with state := .busy })).heap[w.heap.size + 1]? = some (.loop { rec .ready none with state := .busy }) := World.putObj_heap_same hlta
      have hk2 : (Wa.putObj (w.heap.size + 1) (.loop { rec .ready none with state := .busy })).heap[w.heap.size]? = some (.deferred (some [])) := (World.putObj_heap_other (by omega)).trans hka
      have hkp : Kept w.heap.size (w.heap.size + 2 + c) Wa (Wa.putObj (w.heap.size + 1) (.loop { rec .ready none with state := .busy })) := Kept.put _ _ _ (by omega) (by omega)
      have hw2 : Rnd N W1.heap.size (W1.heap.size + c) W (Wa.putObj (w.heap.size + 1) (.loop { rec .ready none with state := .busy })) :=
        (hra.less (fun _ h => h) (by omega) (by omega)).trans (Rnd.put _ _ _ (fun h => by have := hn0 _ h; omega) (by omega))
      refine wpIn_mono (hbody _ pre x a' _ rfl ⟨_, hl2⟩ (hI _ _ _ hia hkp) (by have := hra.size; simp; omega) (hAx pre x a' () _ _ hax hkp) hpre) ?_
      have fin : ∀ (jump : Option Code) (W3 : World), Rnd N w.heap.size (w.heap.size + 2 + c) (Wa.putObj (w.heap.size + 1) (.loop { rec .ready none with state := .busy })) W3 →
          (Instr.endRound (w.heap.size + 1) jump).run P W3 = .ok (.bool jump.isNone) (W3.putObj (w.heap.size + 1) (.loop (rec (if jump.isNone then .ready else .done) jump))) ∧
          Kept w.heap.size (w.heap.size + 2 + c) W3 (W3.putObj (w.heap.size + 1) (.loop (rec (if jump.isNone then .ready else .done) jump))) ∧
          Rnd N W1.heap.size (W1.heap.size + c) W (W3.putObj (w.heap.size + 1) (.loop (rec (if jump.isNone then .ready else .done) jump))) ∧
          (W3.putObj (w.heap.size + 1) (.loop (rec (if jump.isNone then .ready else .done) jump))).heap[w.heap.size + 1]? = some (.loop (rec (if jump.isNone then .ready else .done) jump)) ∧
          (W3.putObj (w.heap.size + 1) (.loop (rec (if jump.isNone then .ready else .done) jump))).heap[w.heap.size]? = some (.deferred (some [])) := fun jump W3 hk3 => by
        have hl3 := (hk3.block _ (Array.getElem?_eq_some_iff.1 hl2).1 (by omega)).trans hl2
        have hk4 := (hk3.block _ (Array.getElem?_eq_some_iff.1 hk2).1 (by omega)).trans hk2
        have hp := Kept.put (lo := w.heap.size) (hi := w.heap.size + 2 + c) W3 (w.heap.size + 1) (.loop (rec (if jump.isNone then .ready else .done) jump)) (by omega) (by omega)
        have hq := (hw2.trans (hk3.less (fun _ h => h) (by omega) (by omega))).trans (Rnd.put (N := N) (lo := W1.heap.size) (hi := W1.heap.size + c) W3 (w.heap.size + 1) (.loop (rec (if jump.isNone then .ready else .done) jump)) (fun h => by have := hn0 _ h; omega) (by omega))
        have := run_endRound (P := P) jump hl3
        rw [hrec] at this
        exact ⟨by rw [hrec]; exact this, hp, hq, World.putObj_heap_same (Array.getElem?_eq_some_iff.1 hl3).1, (World.putObj_heap_other (by omega)).trans hk4⟩
      rintro e a3 W3 hp
      cases e with
      | normal =>
        obtain ⟨hk3, hi3⟩ := hp
        obtain ⟨hr, hkk, hrr, hl4, hk4⟩ := fin none W3 hk3
        exact ⟨_, _, hr, .inl ⟨rfl, ⟨hI _ _ _ hi3 hkk, hl4, hk4⟩, hrr⟩⟩
      | ret =>
        obtain ⟨hk3, hi3⟩ := hp
        obtain ⟨hr, hkk, hrr, hl4, hk4⟩ := fin (some .ret) W3 hk3
        exact ⟨_, _, hr, .inr ⟨rfl, ⟨.ret, hIx _ _ _ _ hi3 hkk, hl4, hk4⟩, hrr⟩⟩
      | exit id =>
        obtain ⟨hk3, hi3⟩ := hp
        obtain ⟨hr, hkk, hrr, hl4, hk4⟩ := fin (some (.exit id)) W3 hk3
        exact ⟨_, _, hr, .inr ⟨rfl, ⟨.exit id, hIx _ _ _ _ hi3 hkk, hl4, hk4⟩, hrr⟩⟩
      | goto t =>
        obtain ⟨hk3, hi3⟩ := hp
        obtain ⟨hr, hkk, hrr, hl4, hk4⟩ := fin (some (.goto t)) W3 hk3
        exact ⟨_, _, hr, .inr ⟨rfl, ⟨.goto t, hIx _ _ _ _ hi3 hkk, hl4, hk4⟩, hrr⟩⟩
      | panic ch => exact hp.elim
      | outgrown => exact hp.elim
    · -- behind the iterator
      rintro e W2 ⟨⟨v, rfl⟩, (⟨hi, hl, hk⟩ | ⟨pre, hSp, c', hi, hl, hk⟩)⟩
      · exact ⟨none, _, by have := run_endLoop (P := P) hl (by rw [hrec]; simp); rw [hrec] at this; exact this, hdone _ (hI _ _ _ hi (Kept.put _ _ _ (by omega) (by omega))) ((World.putObj_heap_other (by omega)).trans hk)⟩
      · exact ⟨some c', _, by have := run_endLoop (P := P) hl (by rw [hrec]; simp); rw [hrec] at this; exact this, hstop c' pre _ hSp (hIx c' _ _ _ hi (Kept.put _ _ _ (by omega) (by omega))) ((World.putObj_heap_other (by omega)).trans hk)⟩

end Go.Proofs.Ytaahklapoppgaaa

