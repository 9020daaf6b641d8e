/- The law of a range over an iterator with cells of its own, in a round of another loop. No conditions. -/
import Derived.Test.YtpifjghhlcjedaaRange
namespace Go.Proofs.Ytpifjghhlcjedaa
open Go Go.RowKit

/-- The law of the loop, in a round of loop l₀: one block of book-keeping, no mark. -/
theorem wpIn_ringN {α : Type} {F : Fence} {n : Nat} {P : Program} {g : Operand} {ps : Array Tmp} {assign body : Code} {Q : Exit → Act → World → Prop} {a : Act} {w : World}
    {l₀ : Nat} {r₀ : Loop} (hd : F.depth = none) (hro : F.round = some l₀) (hl₀ : w.heap[l₀]? = some (.loop r₀)) {gf : Nat} {lb : Array Value} (hg : a.eval g = .func (.func gf) #[] lb) (hFg : F.fn gf) (eg : ∀ args w, (callFunc gf args).run P w = .ok (.enter gf args) w)
    {encs : Nat → α → Array Value} {c : Nat} {N : Nat → Prop} {xs : List α} {w0 : World} (hseq : SeqC F P gf lb encs c N xs w0)
    (hb0 : Below w0.heap.size w0 w) (hn0 : ∀ k, N k → k < w.heap.size) (hps : ∀ i x, (encs i x).size = ps.size)
    (I : List α → World → Prop) (Ix : Code → List α → World → Prop) (hI : Stab w.heap.size (w.heap.size + 1 + c) I) (hIx : ∀ c', Stab w.heap.size (w.heap.size + 1 + c) (Ix c')) (h0 : I [] w)
    (Ax : List α → α → Act → World → Prop) (hAx : ∀ pre x a', Stab w.heap.size (w.heap.size + 1 + c) (fun (_ : Unit) W => Ax pre x a' W))
    (hassign : ∀ (l : Nat) (pre : List α) (x : α) (W : World) (K : Act → World → Prop), I pre W → w.heap.size + 1 + c ≤ W.heap.size → pre ++ [x] <+: xs → (∀ a' W', Rnd N w.heap.size (w.heap.size + 1 + c) W W' → I pre W' → Ax pre x a' W' → K a' W') →
      assign.wpIn (F.inRound l) (n - 1 - 1) P (Exit.then K (fun _ _ _ => False)) { tmps := (ps.zip (encs pre.length x)).foldl (fun t (p, v) => t.setIfInBounds p v) a.tmps, defers := [] } W)
    (hbody : ∀ (l : Nat) (pre : List α) (x : α) (a' : Act) (W : World), l = w.heap.size → (∃ r, W.heap[l]? = some (.loop r)) → I pre W → w.heap.size + 1 + c ≤ W.heap.size → Ax pre x a' W → pre ++ [x] <+: xs → body.wpIn (F.inRound l) (n - 1 - 1) P (ringPost N w.heap.size (w.heap.size + 1 + c) I Ix (pre ++ [x]) W) a' W)
    (hdone : ∀ (W : World), I xs W → Q .normal a W)
    (hstop : ∀ (c' : Code) (pre : List α) (W : World), pre <+: xs → Ix c' pre W → c'.wpIn F n P Q a W) :
    (Code.rangeFunc g ps assign body).wpIn F n P Q a w := by
  refine wpIn_rangeFunc ?_
  intro fn hfn
  rw [hro]
  obtain ⟨rec, hrec⟩ : ∃ rec : LoopState → Option Code → Loop, rec = fun st pe => { state := st, pending := pe, fn, tmps := a.tmps, params := ps, assign, body, defers := r₀.defers } := ⟨_, rfl⟩
  obtain ⟨W1, hW1⟩ : ∃ W1, w.alloc (.loop (rec .ready none)) = W1 := ⟨_, rfl⟩
  have hs1 : W1.heap.size = w.heap.size + 1 := by rw [← hW1]; simp
  have hL1 : W1.heap[w.heap.size]? = some (.loop (rec .ready none)) := by rw [← hW1]; exact World.alloc_heap_new w _
  have hI1 : I [] W1 := by rw [← hW1]; exact hI _ _ _ h0 (Kept.alloc _ _ _ _)
  have hb1 : Below w0.heap.size w0 W1 := by
    rw [← hW1]; exact hb0.trans (((Below.refl _ w).alloc (Nat.le_refl _) _).mono hb0.size)
  refine ⟨w.heap.size, [], W1, { target := .fn (.func gf) lb, args := #[.func (.yield w.heap.size) #[] #[]] }, W1, gf,
    #[.func (.yield w.heap.size) #[] #[]] ++ lb, W1, ?_, ?_, ?_, ?_, fun h => (by rw [hd] at h; cases h), ?_⟩
  · rw [← hW1, hrec]; exact run_enterLoop_inner hl₀ _ _ _ _ _
  · simp only [resolve, hg]
    simp [go_sem]
  · intro f' hf'; simp [Target.leads] at hf'; subst hf'; exact hFg
  · simp [invoke, go_sem, eg]
  · refine (hseq (n - 1) w.heap.size
      (fun pre W => I pre W ∧ W.heap[w.heap.size]? = some (.loop (rec .ready none)))
      (fun pre W => ∃ c', Ix c' pre W ∧ W.heap[w.heap.size]? = some (.loop (rec .done (some c'))))
      W1 hb1
      (fun s A B hs hk => ⟨hI s A B hs.1 (hk.wide (by omega) (by omega)), (hk.block _ (Array.getElem?_eq_some_iff.1 hs.2).1 (by omega)).trans hs.2⟩)
      (fun s A B hs hk => by
        obtain ⟨c', hc, hl⟩ := hs
        exact ⟨c', hIx c' s A B hc (hk.wide (by omega) (by omega)), (hk.block _ (Array.getElem?_eq_some_iff.1 hl).1 (by omega)).trans hl⟩)
      ?_ ⟨hI1, hL1⟩).mono ?_
    · -- one round
      rintro m pre x W ⟨hi, hl⟩ hbig hpre
      have hlt : w.heap.size < W.heap.size := (Array.getElem?_eq_some_iff.1 hl).1
      have hy := run_yield (P := P) (args := encs pre.length x) hl (by rw [hrec]; exact hps _ x)
      rw [hrec] at hy
      refine yield_free hd (m := n - 1 - 1) m ⟨fn, _, assign, body, hy, roundIn_of_wpIn hfn (hassign _ pre x W _ hi (by omega) hpre ?_)⟩
      clear hy
      intro a' Wa hra hia hax
      have hla := (hra.block _ (by omega) (by omega)).trans hl
      have hlta : w.heap.size < Wa.heap.size := (Array.getElem?_eq_some_iff.1 hla).1
      refine ⟨_, run_beginRound hla (by rw [hrec]), ?_⟩
      have hl2 : (Wa.putObj w.heap.size (.loop { rec .ready none with state := .busy })).heap[w.heap.size]? = some (.loop { rec .ready none with state := .busy }) := World.putObj_heap_same hlta
      have hkp : Kept w.heap.size (w.heap.size + 1 + c) Wa (Wa.putObj w.heap.size (.loop { rec .ready none with state := .busy })) := Kept.put _ _ _ (by omega) (by omega)
      have hw2 : Rnd N W1.heap.size (W1.heap.size + c) W (Wa.putObj w.heap.size (.loop { rec .ready none with state := .busy })) :=
        (hra.less (fun _ h => h) (by omega) (by omega)).trans (Rnd.put _ _ _ (fun h => by have := hn0 _ h; omega) (by omega))
      refine wpIn_mono (hbody _ pre x a' _ rfl ⟨_, hl2⟩ (hI _ _ _ hia hkp) (by have := hra.size; simp; omega) (hAx pre x a' () _ _ hax hkp) hpre) ?_
      have fin : ∀ (jump : Option Code) (W3 : World), Rnd N w.heap.size (w.heap.size + 1 + c) (Wa.putObj w.heap.size (.loop { rec .ready none with state := .busy })) W3 →
          (Instr.endRound w.heap.size jump).run P W3 = .ok (.bool jump.isNone) (W3.putObj w.heap.size (.loop (rec (if jump.isNone then .ready else .done) jump))) ∧
          Kept w.heap.size (w.heap.size + 1 + c) W3 (W3.putObj w.heap.size (.loop (rec (if jump.isNone then .ready else .done) jump))) ∧
          Rnd N W1.heap.size (W1.heap.size + c) W (W3.putObj w.heap.size (.loop (rec (if jump.isNone then .ready else .done) jump))) ∧
          (W3.putObj w.heap.size (.loop (rec (if jump.isNone then .ready else .done) jump))).heap[w.heap.size]? = some (.loop (rec (if jump.isNone then .ready else .done) jump)) := fun jump W3 hk3 => by
        have hl3 := (hk3.block _ (Array.getElem?_eq_some_iff.1 hl2).1 (by omega)).trans hl2
        have hp := Kept.put (lo := w.heap.size) (hi := w.heap.size + 1 + c) W3 w.heap.size (.loop (rec (if jump.isNone then .ready else .done) jump)) (by omega) (by omega)
        have hq := (hw2.trans (hk3.less (fun _ h => h) (by omega) (by omega))).trans (Rnd.put (N := N) (lo := W1.heap.size) (hi := W1.heap.size + c) W3 w.heap.size (.loop (rec (if jump.isNone then .ready else .done) jump)) (fun h => by have := hn0 _ h; omega) (by omega))
        have := run_endRound (P := P) jump hl3
        rw [hrec] at this
        exact ⟨by rw [hrec]; exact this, hp, hq, World.putObj_heap_same (Array.getElem?_eq_some_iff.1 hl3).1⟩
      rintro e a3 W3 hp
      cases e with
      | normal =>
        obtain ⟨hk3, hi3⟩ := hp
        obtain ⟨hr, hkk, hrr, hl4⟩ := fin none W3 hk3
        exact ⟨_, _, hr, .inl ⟨rfl, ⟨hI _ _ _ hi3 hkk, hl4⟩, hrr⟩⟩
      | ret =>
        obtain ⟨hk3, hi3⟩ := hp
        obtain ⟨hr, hkk, hrr, hl4⟩ := fin (some .ret) W3 hk3
        exact ⟨_, _, hr, .inr ⟨rfl, ⟨.ret, hIx _ _ _ _ hi3 hkk, hl4⟩, hrr⟩⟩
      | exit id =>
        obtain ⟨hk3, hi3⟩ := hp
        obtain ⟨hr, hkk, hrr, hl4⟩ := fin (some (.exit id)) W3 hk3
        exact ⟨_, _, hr, .inr ⟨rfl, ⟨.exit id, hIx _ _ _ _ hi3 hkk, hl4⟩, hrr⟩⟩
      | goto t =>
        obtain ⟨hk3, hi3⟩ := hp
        obtain ⟨hr, hkk, hrr, hl4⟩ := fin (some (.goto t)) W3 hk3
        exact ⟨_, _, hr, .inr ⟨rfl, ⟨.goto t, hIx _ _ _ _ hi3 hkk, hl4⟩, hrr⟩⟩
      | panic ch => exact hp.elim
      | outgrown => exact hp.elim
    · -- behind the iterator
      rintro e W2 ⟨⟨v, rfl⟩, (⟨hi, hl⟩ | ⟨pre, hSp, c', hi, hl⟩)⟩
      · exact ⟨none, _, by have := run_endLoop (P := P) hl (by rw [hrec]; simp); rw [hrec] at this; exact this, hdone _ (hI _ _ _ hi (Kept.put _ _ _ (by omega) (by omega)))⟩
      · exact ⟨some c', _, by have := run_endLoop (P := P) hl (by rw [hrec]; simp); rw [hrec] at this; exact this, hstop c' pre _ hSp (hIx c' _ _ _ hi (Kept.put _ _ _ (by omega) (by omega)))⟩

end Go.Proofs.Ytpifjghhlcjedaa
