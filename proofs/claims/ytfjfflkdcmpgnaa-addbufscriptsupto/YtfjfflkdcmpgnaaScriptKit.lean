/- The state of the law AddbufScripts between two steps of its script, and what each call does to it. -/
import Derived.Test.YtfjfflkdcmpgnaaApartWalk
namespace Go.Proofs.Ytfjfflkdcmpgnaa
open Go.RowKit

theorem own_same {W W' : World} {base e size n : Nat} {v : Value} {xs : List Value} (h : W.ownsRow base e size v n xs) (hs : ∀ g, v.ownBlock = some g → g < W.heap.size → W'.heap[g]? = W.heap[g]?) : W'.ownsRow base e size v n xs := by
  refine ⟨h.1, ?_⟩
  rcases h.2 with h0 | ⟨g, cap, cur, rfl, hb, hg, rest⟩
  · exact .inl h0
  · exact .inr ⟨g, cap, cur, rfl, hb, by rw [hs g rfl (Array.getElem?_eq_some_iff.1 hg).1]; exact hg, rest⟩

theorem grown_trans {w w1 w2 : World} {row : Option Nat} (h1 : w.grownBy w1 row) (h2 : w1.grownBy w2 row) : w.grownBy w2 row :=
  ⟨h2.os.trans h1.os, h2.tape.trans h1.tape, h2.output.trans h1.output, Nat.le_trans h1.size h2.size, fun k hk hn => by rw [h2.block k (by have := h1.size; omega) hn]; exact h1.block k hk hn⟩
theorem u8_set {ys : List Value} (h : ∀ u ∈ ys, ∃ z, u = .int .u8 z) (j : Nat) (z : Int) : ∀ u ∈ ys.set j (.int .u8 z), ∃ z, u = .int .u8 z := by
  intro u hu
  rcases List.mem_or_eq_of_mem_set hu with h1 | h1
  · exact h u h1
  · exact ⟨z, h1⟩

theorem mk_bytes (l : List UInt8) : ∀ u ∈ bv l ++ mk2, ∃ z, u = .int .u8 z := by
  intro u hu
  rcases List.mem_append.1 hu with h1 | h1
  · exact bv_bytes l u h1
  · simp [mk2] at h1
    rcases h1 with rfl | rfl <;> exact ⟨_, rfl⟩
theorem BufAt.off {W W' : World} {base b gi : Nat} {vo va : Value} {O A : List UInt8} (h : BufAt W base b vo va O A) (hg : W.grownBy W' (some gi)) (hl : gi < base) : BufAt W' base b vo va O A := by
  have hv : ∀ {v : Value} {xs : List Value} {n : Nat}, W.ownsRow base 5 1 v n xs → v.ownBlock = none ∨ v.ownBlock ≠ some gi := fun {v xs n} ho => by
    rcases e : v.ownBlock with _ | g
    · exact .inl rfl
    · have := (ho.lt g e).1
      exact .inr (by simp; omega)
  exact h.grown hg (by have := h.lo; simp; omega) (hv h.orig) (hv h.added)

/-- Two buffers, the book, and the lists that Read answered: list 0 to 5: the first buffer's two, the other's two, the book's two; from 6 on those that were read. -/
structure Sta (w W : World) (b b2 bk bl : Nat) (vl : Value) (cnt n : Nat) (xs : List Value) (G : Nat → Value) (M : Nat → Nat) (Z : Nat → List Value) (O A A2 K : List UInt8) : Prop where
  own : ∀ k, k < cnt + 6 → W.ownsRow w.heap.size 5 1 (G k) (M k) (Z k)
  ap : ∀ j k, j < cnt + 6 → k < cnt + 6 → j ≠ k → (G j).ownBlock = none ∨ (G j).ownBlock ≠ (G k).ownBlock
  z0 : M 0 = O.length ∧ Z 0 = bv O
  z1 : M 1 = A.length ∧ Z 1 = bv A
  z2 : M 2 = 0 ∧ Z 2 = []
  z3 : M 3 = A2.length ∧ Z 3 = bv A2
  z4 : M 4 = O.length ∧ Z 4 = bv O
  z5 : M 5 = K.length ∧ Z 5 = bv K
  hb : W.heap[b]? = some (.cells #[G 0, G 1] 60 (0, 0))
  hb2 : W.heap[b2]? = some (.cells #[G 2, G 3] 60 (0, 0))
  ne : b ≠ b2
  hk : RowAt W bk #[G 4, G 5] 30
  hl : RowAt W bl #[vl] 31
  ls : W.ownsRow w.heap.size 22 1 vl n xs
  lob : w.heap.size ≤ b ∧ w.heap.size ≤ b2 ∧ w.heap.size ≤ bk ∧ w.heap.size ≤ bl
  bel : Below w.heap.size w W
  nb : ∀ k, k < cnt → M (6 + k) ≤ 16777216

section
variable {w W W' : World} {b b2 bk bl cnt n : Nat} {xs : List Value} {vl : Value} {G : Nat → Value} {M : Nat → Nat} {Z : Nat → List Value} {O A A2 K : List UInt8}

theorem lt_of_heap {W : World} {k : Nat} {x : Obj} (h : W.heap[k]? = some x) : k < W.heap.size := (Array.getElem?_eq_some_iff.1 h).1

theorem Sta.below (h : Sta w W b b2 bk bl vl cnt n xs G M Z O A A2 K) (hB : Below W.heap.size W W') : Sta w W' b b2 bk bl vl cnt n xs G M Z O A A2 K :=
  ⟨fun k hk => own_keep (h.own k hk) hB, h.ap, h.z0, h.z1, h.z2, h.z3, h.z4, h.z5, by rw [hB.block b (lt_of_heap h.hb)]; exact h.hb, by rw [hB.block b2 (lt_of_heap h.hb2)]; exact h.hb2, h.ne, h.hk.keep hB, h.hl.keep hB, own_keep h.ls hB, h.lob, h.bel.trans (hB.mono h.bel.size), h.nb⟩

theorem Sta.buf (h : Sta w W b b2 bk bl vl cnt n xs G M Z O A A2 K) : BufAt W w.heap.size b (G 0) (G 1) O A :=
  ⟨h.lob.1, h.hb, by have := h.own 0 (by omega); rw [h.z0.1, h.z0.2] at this; exact this, by have := h.own 1 (by omega); rw [h.z1.1, h.z1.2] at this; exact this, h.ap 0 1 (by omega) (by omega) (by omega)⟩
theorem Sta.buf2 (h : Sta w W b b2 bk bl vl cnt n xs G M Z O A A2 K) : BufAt W w.heap.size b2 (G 2) (G 3) [] A2 :=
  ⟨h.lob.2.1, h.hb2, by have := h.own 2 (by omega); rw [h.z2.1, h.z2.2] at this; exact this, by have := h.own 3 (by omega); rw [h.z3.1, h.z3.2] at this; exact this, h.ap 2 3 (by omega) (by omega) (by omega)⟩

/-- a value that lies in one of two places -/
theorem fresh_apart {u v v' : Value} {n : Nat} (hu : ∀ g, u.ownBlock = some g → g < n) (h : u.ownBlock = none ∨ u.ownBlock ≠ v.ownBlock) (hf : v'.ownBlock = v.ownBlock ∨ ∃ q, v'.ownBlock = some q ∧ n ≤ q) : (u.ownBlock = none ∨ u.ownBlock ≠ v'.ownBlock) ∧ (v'.ownBlock = none ∨ v'.ownBlock ≠ u.ownBlock) := by
  rcases hf with e | ⟨q, e, hq⟩
  · rw [e]
    refine ⟨h, ?_⟩
    rcases hv : v.ownBlock with _ | g
    · exact .inl rfl
    · right
      rcases h with e2 | e2
      · rw [e2]; simp
      · intro e3; exact e2 (by rw [← e3, hv])
  · rw [e]
    rcases hu2 : u.ownBlock with _ | g
    · exact ⟨.inl rfl, .inr (by simp)⟩
    · have := hu g hu2
      exact ⟨.inr (by simp; omega), .inr (by simp; omega)⟩

/-- one of the rows is turned, with one block of another make: what stays -/
theorem Sta.rowsKeep (h : Sta w W b b2 bk bl vl cnt n xs G M Z O A A2 K) {i : Nat} (hi : i < cnt + 6) {c : Nat} {cs : Array Value} {t : Nat} (hc : W.heap[c]? = some (.cells cs t (0, 0))) (ht : t ≠ 5) (htch : Touch W W' c (G i).ownBlock) :
    (∀ k, k < cnt + 6 → k ≠ i → W'.ownsRow w.heap.size 5 1 (G k) (M k) (Z k)) ∧ (∀ k cs' t', k ≠ c → t' ≠ 5 → W.heap[k]? = some (.cells cs' t' (0, 0)) → W'.heap[k]? = some (.cells cs' t' (0, 0))) := by
  refine ⟨fun k hk hki => own_same (h.own k hk) (fun g hg hlt => htch.block g hlt ?_ ?_), fun k cs' t' hkc ht' hk => ?_⟩
  · intro e
    subst e
    exact (block_apart (h.own k hk) hc (Ne.symm ht)) hg.symm
  · rcases h.ap k i hk hi hki with e | e
    · rw [e] at hg; cases hg
    · intro e2; exact e (by rw [hg, e2])
  · rw [htch.block k (lt_of_heap hk) hkc (block_apart (h.own i hi) hk (Ne.symm ht'))]; exact hk

/-- the rows behind a turn of row i -/
theorem Sta.fam (h : Sta w W b b2 bk bl vl cnt n xs G M Z O A A2 K) {i : Nat} (hi : i < cnt + 6) {v' : Value} {r : Nat} {zs : List Value} (hk : ∀ k, k < cnt + 6 → k ≠ i → W'.ownsRow w.heap.size 5 1 (G k) (M k) (Z k)) (hown : W'.ownsRow w.heap.size 5 1 v' r zs) (hf : v'.ownBlock = (G i).ownBlock ∨ ∃ q, v'.ownBlock = some q ∧ W.heap.size ≤ q) :
    (∀ k, k < cnt + 6 → W'.ownsRow w.heap.size 5 1 (upd G i v' k) (upd M i r k) (upd Z i zs k)) ∧ (∀ j k, j < cnt + 6 → k < cnt + 6 → j ≠ k → (upd G i v' j).ownBlock = none ∨ (upd G i v' j).ownBlock ≠ (upd G i v' k).ownBlock) := by
  refine ⟨fun k hk' => ?_, fun j k hj hk' hjk => ?_⟩
  · by_cases e : k = i
    · subst e; rw [upd_same, upd_same, upd_same]; exact hown
    · rw [upd_ne _ _ e, upd_ne _ _ e, upd_ne _ _ e]; exact hk k hk' e
  · by_cases e : j = i
    · subst e
      rw [upd_same, upd_ne _ _ (Ne.symm hjk)]
      exact (fresh_apart (fun g hg => ((h.own k hk').lt g hg).2) (h.ap k j hk' hj (Ne.symm hjk)) hf).2
    · rw [upd_ne _ _ e]
      by_cases e2 : k = i
      · subst e2
        rw [upd_same]
        exact (fresh_apart (fun g hg => ((h.own j hj).lt g hg).2) (h.ap j k hj hk' hjk) hf).1
      · rw [upd_ne _ _ e2]; exact h.ap j k hj hk' hjk

theorem ls_keep {W W' : World} {base n : Nat} {v : Value} {xs : List Value} {c : Nat} {cs : Array Value} {t : Nat} (h : W.ownsRow base 22 1 v n xs) (hc : W.heap[c]? = some (.cells cs t (0, 0))) (ht : t ≠ 22)
    (hs : ∀ k cs' t', k ≠ c → t' ≠ 5 → W.heap[k]? = some (.cells cs' t' (0, 0)) → W'.heap[k]? = some (.cells cs' t' (0, 0))) : W'.ownsRow base 22 1 v n xs := by
  refine ⟨h.1, ?_⟩
  rcases h.2 with h0 | ⟨g, cap, cur, rfl, hb, hg, rest⟩
  · exact .inl h0
  · refine .inr ⟨g, cap, cur, rfl, hb, hs g cur 22 ?_ (by decide) hg, rest⟩
    intro e
    subst e
    rw [hg] at hc
    simp at hc
    exact ht hc.2.symm
theorem ne_type {W : World} {k c t t' : Nat} {cs cs' : Array Value} (h1 : W.heap[k]? = some (.cells cs t (0, 0))) (h2 : W.heap[c]? = some (.cells cs' t' (0, 0))) (h : t ≠ t') : k ≠ c := by
  intro e; subst e; rw [h1] at h2; simp at h2; exact h h2.2
theorem touch_low (h : Sta w W b b2 bk bl vl cnt n xs G M Z O A A2 K) {c i : Nat} (hi : i < cnt + 6) (hc : w.heap.size ≤ c) (ht : Touch W W' c (G i).ownBlock) : Below w.heap.size w W' :=
  touch_below h.bel ht h.bel.size hc (fun k hk => ((h.own i hi).lt k hk).1)

theorem Sta.add (h : Sta w W b b2 bk bl vl cnt n xs G M Z O A A2 K) {va' : Value} {P : List UInt8} (hB : BufAt W' w.heap.size b (G 0) va' O (A ++ P)) (ht : Touch W W' b (G 1).ownBlock) (hf : va'.ownBlock = (G 1).ownBlock ∨ ∃ q, va'.ownBlock = some q ∧ W.heap.size ≤ q) :
    Sta w W' b b2 bk bl vl cnt n xs (upd G 1 va') (upd M 1 (A ++ P).length) (upd Z 1 (bv (A ++ P))) O (A ++ P) A2 K := by
  obtain ⟨r1, r2⟩ := h.rowsKeep (i := 1) (by omega) h.hb (by decide) ht
  obtain ⟨f1, f2⟩ := h.fam (i := 1) (by omega) r1 hB.added hf
  refine ⟨f1, f2, h.z0, ⟨rfl, rfl⟩, h.z2, h.z3, h.z4, h.z5, hB.here, r2 b2 _ 60 (Ne.symm h.ne) (by decide) h.hb2, h.ne, r2 bk _ 30 (ne_type h.hk h.hb (by decide)) (by decide) h.hk, r2 bl _ 31 (ne_type h.hl h.hb (by decide)) (by decide) h.hl, ?_, h.lob, touch_low h (i := 1) (by omega) h.lob.1 ht, fun k hk => by rw [upd_ne _ _ (by omega)]; exact h.nb k hk⟩
  exact ls_keep h.ls h.hb (by decide) r2

theorem Sta.add2 (h : Sta w W b b2 bk bl vl cnt n xs G M Z O A A2 K) {va' : Value} {P : List UInt8} (hB : BufAt W' w.heap.size b2 (G 2) va' [] (A2 ++ P)) (ht : Touch W W' b2 (G 3).ownBlock) (hf : va'.ownBlock = (G 3).ownBlock ∨ ∃ q, va'.ownBlock = some q ∧ W.heap.size ≤ q) :
    Sta w W' b b2 bk bl vl cnt n xs (upd G 3 va') (upd M 3 (A2 ++ P).length) (upd Z 3 (bv (A2 ++ P))) O A (A2 ++ P) K := by
  obtain ⟨r1, r2⟩ := h.rowsKeep (i := 3) (by omega) h.hb2 (by decide) ht
  obtain ⟨f1, f2⟩ := h.fam (i := 3) (by omega) r1 hB.added hf
  refine ⟨f1, f2, h.z0, h.z1, h.z2, ⟨rfl, rfl⟩, h.z4, h.z5, r2 b _ 60 h.ne (by decide) h.hb, hB.here, h.ne, r2 bk _ 30 (ne_type h.hk h.hb2 (by decide)) (by decide) h.hk, r2 bl _ 31 (ne_type h.hl h.hb2 (by decide)) (by decide) h.hl, ?_, h.lob, touch_low h (i := 3) (by omega) h.lob.2.1 ht, fun k hk => by rw [upd_ne _ _ (by omega)]; exact h.nb k hk⟩
  exact ls_keep h.ls h.hb2 (by decide) r2

/-- the book's second list grows and its new value is stored -/
theorem Sta.book (h : Sta w W b b2 bk bl vl cnt n xs G M Z O A A2 K) {W1 : World} {v' : Value} {P : List UInt8} (hown : W1.ownsRow w.heap.size 5 1 v' (K ++ P).length (bv (K ++ P))) (hg : W.grownBy W1 (G 5).ownBlock) (hf : v'.ownBlock = (G 5).ownBlock ∨ ∃ q, v'.ownBlock = some q ∧ W.heap.size ≤ q) :
    Sta w (W1.setCell ⟨bk, 1, none⟩ v') b b2 bk bl vl cnt n xs (upd G 5 v') (upd M 5 (K ++ P).length) (upd Z 5 (bv (K ++ P))) O A A2 (K ++ P) ∧ W1.cell? ⟨bk, 1, none⟩ = some (G 5) ∧ W1.frozen? ⟨bk, 1, none⟩ = false := by
  have hk1 : RowAt W1 bk #[G 4, G 5] 30 := by unfold RowAt; rw [hg.block bk h.hk.lt (block_apart (h.own 5 (by omega)) h.hk (by decide))]; exact h.hk
  have ht : Touch W (W1.setCell ⟨bk, 1, none⟩ v') bk (G 5).ownBlock := ⟨hg.os, hg.tape, hg.output, by have := hg.size; simp; exact this, fun k hk hkb hkr => by rw [Below.heap_setCell _ _ _ _ (by simpa using hkb), hg.block k hk hkr]⟩
  obtain ⟨r1, r2⟩ := h.rowsKeep (i := 5) (by omega) h.hk (by decide) ht
  have hown' := hown.kept (grown_setCell W1 ⟨bk, 1, none⟩ v') (.inr (Ne.symm (block_apart hown hk1 (by decide))))
  obtain ⟨f1, f2⟩ := h.fam (i := 5) (by omega) r1 hown' hf
  refine ⟨⟨f1, f2, h.z0, h.z1, h.z2, h.z3, h.z4, ⟨rfl, rfl⟩, r2 b _ 60 (ne_type h.hb h.hk (by decide)) (by decide) h.hb, r2 b2 _ 60 (ne_type h.hb2 h.hk (by decide)) (by decide) h.hb2, h.ne, ?_, r2 bl _ 31 (ne_type h.hl h.hk (by decide)) (by decide) h.hl, ?_, h.lob, touch_low h (i := 5) (by omega) h.lob.2.2.1 ht, fun k hk => by rw [upd_ne _ _ (by omega)]; exact h.nb k hk⟩, by rw [hk1.cell]; rfl, hk1.fz 1⟩
  · unfold RowAt at *; simp [World.setCell, Array.getElem?_modify, hk1, upd]
  · exact ls_keep h.ls h.hk (by decide) r2

/-- a row of nobody's is written -/
theorem Sta.tmp (h : Sta w W b b2 bk bl vl cnt n xs G M Z O A A2 K) {gp : Nat} {cur : Array Value} (hg : W.grownBy W' (some gp)) (hc : W.heap[gp]? = some (.cells cur 5 (0, 0))) (hlo : w.heap.size ≤ gp) (hn : ∀ k, k < cnt + 6 → (G k).ownBlock ≠ some gp) : Sta w W' b b2 bk bl vl cnt n xs G M Z O A A2 K := by
  have r2 : ∀ (k : Nat) (cs' : Array Value) (t' : Nat), t' ≠ 5 → W.heap[k]? = some (Obj.cells cs' t' (0, 0)) → W'.heap[k]? = some (Obj.cells cs' t' (0, 0)) := fun k cs' t' ht' hk => by
    rw [hg.block k (lt_of_heap hk) (by intro e; simp at e; exact (ne_type hk hc ht') e)]; exact hk
  exact ⟨fun k hk => (h.own k hk).kept hg (.inr (hn k hk)), h.ap, h.z0, h.z1, h.z2, h.z3, h.z4, h.z5, r2 b _ 60 (by decide) h.hb, r2 b2 _ 60 (by decide) h.hb2, h.ne, r2 bk _ 30 (by decide) h.hk, r2 bl _ 31 (by decide) h.hl, ls_keep h.ls h.hb (by decide) (fun k cs' t' _ ht' hk => r2 k cs' t' ht' hk), h.lob,
    h.bel.grown hg h.bel.size (fun k hk => by simp at hk; omega), h.nb⟩

/-- two lists that were read go into the list of lists -/
theorem Sta.told (h : Sta w W b b2 bk bl vl cnt n xs G M Z O A A2 K) {vl' vp vq : Value} {k0 : Nat} (hT : ToldLeft W W' w.heap.size bl n vl vl' xs vp vq k0) (hk0 : k0 ≤ 16777216) :
    ∃ G' M' Z', Sta w W' b b2 bk bl vl' (cnt + 2) (n + 2) (xs ++ [vp, vq]) G' M' Z' O A A2 K ∧ (∀ k, k < cnt + 6 → G' k = G k) ∧ G' (cnt + 6) = vp ∧ G' (cnt + 7) = vq := by
  obtain ⟨yp, hyp, _⟩ := hT.one
  obtain ⟨yq, hyq, _⟩ := hT.two
  have keep5 : ∀ k, k < cnt + 6 → W'.ownsRow w.heap.size 5 1 (G k) (M k) (Z k) := fun k hk => own_same (h.own k hk) (fun g hg hlt => hT.touch.block g hlt (fun e => by subst e; exact (block_apart (h.own k hk) h.hl (by decide)) hg.symm) (by
    rcases own_apart (h.own k hk) h.ls (by decide) with e | e
    · rw [e] at hg; cases hg
    · intro e2; exact e (by rw [hg, e2])))
  have r2 : ∀ (k : Nat) (cs' : Array Value) (t' : Nat), k ≠ bl → t' ≠ 22 → W.heap[k]? = some (Obj.cells cs' t' (0, 0)) → W'.heap[k]? = some (Obj.cells cs' t' (0, 0)) := fun k cs' t' hkb ht' hk => by
    rw [hT.touch.block k (lt_of_heap hk) hkb (block_apart h.ls hk (Ne.symm ht'))]; exact hk
  have hz := h.bel.size
  have newlt : ∀ {v : Value} {ys : List Value}, W'.ownsRow W.heap.size 5 1 v k0 ys → ∀ g, v.ownBlock = some g → W.heap.size ≤ g := fun hv g hg => (hv.lt g hg).1
  have far : ∀ {v : Value} {ys : List Value}, W'.ownsRow W.heap.size 5 1 v k0 ys → ∀ k, k < cnt + 6 → ((G k).ownBlock = none ∨ (G k).ownBlock ≠ v.ownBlock) ∧ (v.ownBlock = none ∨ v.ownBlock ≠ (G k).ownBlock) := fun {v ys} hv k hk => by
    rcases e1 : (G k).ownBlock with _ | g
    · refine ⟨.inl rfl, ?_⟩
      rcases e2 : v.ownBlock with _ | q
      · exact .inl rfl
      · exact .inr (by simp)
    · have h1 := ((h.own k hk).lt g e1).2
      rcases e2 : v.ownBlock with _ | q
      · exact ⟨.inr (by simp), .inl rfl⟩
      · have h2 := newlt hv q e2
        exact ⟨.inr (by simp; omega), .inr (by simp; omega)⟩
  refine ⟨upd (upd G (cnt + 6) vp) (cnt + 7) vq, upd (upd M (cnt + 6) k0) (cnt + 7) k0, upd (upd Z (cnt + 6) yp) (cnt + 7) yq, ?_⟩
  have lowG : ∀ k, k < cnt + 6 → upd (upd G (cnt + 6) vp) (cnt + 7) vq k = G k := fun k hk => by rw [upd_ne _ _ (by omega), upd_ne _ _ (by omega)]
  have lowM : ∀ k, k < cnt + 6 → upd (upd M (cnt + 6) k0) (cnt + 7) k0 k = M k := fun k hk => by rw [upd_ne _ _ (by omega), upd_ne _ _ (by omega)]
  have lowZ : ∀ k, k < cnt + 6 → upd (upd Z (cnt + 6) yp) (cnt + 7) yq k = Z k := fun k hk => by rw [upd_ne _ _ (by omega), upd_ne _ _ (by omega)]
  have sixG : upd (upd G (cnt + 6) vp) (cnt + 7) vq (cnt + 6) = vp := by rw [upd_ne _ _ (by omega), upd_same]
  have sevG : upd (upd G (cnt + 6) vp) (cnt + 7) vq (cnt + 7) = vq := upd_same _ _ _
  refine ⟨⟨fun k hk => ?_, fun j k hj hk hjk => ?_, ?_, ?_, ?_, ?_, ?_, ?_, ?_, ?_, h.ne, ?_, hT.here, ?_, h.lob, ?_, fun k hk => ?_⟩, lowG, sixG, sevG⟩
  · rcases Nat.lt_or_ge k (cnt + 6) with e | e
    · rw [lowG k e, lowM k e, lowZ k e]; exact keep5 k e
    · by_cases e2 : k = cnt + 6
      · subst e2
        rw [upd_ne _ _ (by omega), upd_same, upd_ne _ _ (by omega), upd_same, upd_ne _ _ (by omega), upd_same]
        exact own_lower hyp hz
      · obtain rfl : k = cnt + 7 := by omega
        rw [upd_same, upd_same, upd_same]
        exact own_lower hyq hz
  · rcases Nat.lt_or_ge j (cnt + 6) with ej | ej
    · rw [lowG j ej]
      rcases Nat.lt_or_ge k (cnt + 6) with ek | ek
      · rw [lowG k ek]; exact h.ap j k ej ek hjk
      · by_cases e2 : k = cnt + 6
        · subst e2; rw [sixG]; exact (far hyp j ej).1
        · obtain rfl : k = cnt + 7 := by omega
          rw [sevG]; exact (far hyq j ej).1
    · by_cases e1 : j = cnt + 6
      · subst e1
        rw [sixG]
        rcases Nat.lt_or_ge k (cnt + 6) with ek | ek
        · rw [lowG k ek]; exact (far hyp k ek).2
        · obtain rfl : k = cnt + 7 := by omega
          rw [sevG]; exact hT.apart
      · obtain rfl : j = cnt + 7 := by omega
        rw [sevG]
        rcases Nat.lt_or_ge k (cnt + 6) with ek | ek
        · rw [lowG k ek]; exact (far hyq k ek).2
        · obtain rfl : k = cnt + 6 := by omega
          rw [sixG]
          rcases e2 : vq.ownBlock with _ | g
          · exact .inl rfl
          · right
            rcases hT.apart with e3 | e3
            · rw [e3]; simp
            · intro e4; exact e3 (by rw [← e4, e2])
  · rw [lowM 0 (by omega), lowZ 0 (by omega)]; exact h.z0
  · rw [lowM 1 (by omega), lowZ 1 (by omega)]; exact h.z1
  · rw [lowM 2 (by omega), lowZ 2 (by omega)]; exact h.z2
  · rw [lowM 3 (by omega), lowZ 3 (by omega)]; exact h.z3
  · rw [lowM 4 (by omega), lowZ 4 (by omega)]; exact h.z4
  · rw [lowM 5 (by omega), lowZ 5 (by omega)]; exact h.z5
  · rw [lowG 0 (by omega), lowG 1 (by omega)]; exact r2 b _ 60 (ne_type h.hb h.hl (by decide)) (by decide) h.hb
  · rw [lowG 2 (by omega), lowG 3 (by omega)]; exact r2 b2 _ 60 (ne_type h.hb2 h.hl (by decide)) (by decide) h.hb2
  · rw [lowG 4 (by omega), lowG 5 (by omega)]; exact r2 bk _ 30 (ne_type h.hk h.hl (by decide)) (by decide) h.hk
  · exact hT.list
  · exact touch_below h.bel hT.touch hz h.lob.2.2.2 (fun k hk => (h.ls.lt k hk).1)
  · rcases Nat.lt_or_ge k cnt with e | e
    · rw [lowM _ (by omega)]; exact h.nb k e
    · by_cases e2 : k = cnt
      · subst e2; rw [show 6 + k = k + 6 from by omega, upd_ne _ _ (by omega), upd_same]; exact hk0
      · obtain rfl : k = cnt + 1 := by omega
        rw [show 6 + (cnt + 1) = cnt + 7 from by omega, upd_same]; exact hk0

/-- the lists that were read are let go -/
theorem Sta.drop (h : Sta w W b b2 bk bl vl cnt n xs G M Z O A A2 K) : Sta w W b b2 bk bl vl 0 n xs G M Z O A A2 K :=
  ⟨fun k hk => h.own k (by omega), fun j k hj hk => h.ap j k (by omega) (by omega), h.z0, h.z1, h.z2, h.z3, h.z4, h.z5, h.hb, h.hb2, h.ne, h.hk, h.hl, h.ls, h.lob, h.bel, fun k hk => by omega⟩

/-- the lists that were read, as apart takes them -/
theorem Sta.many (h : Sta w W b b2 bk bl vl cnt n xs G M Z O A A2 K) : Many W W w.heap.size cnt (fun k => G (6 + k)) (fun _ => 0) mkA (fun k => G (6 + k)) (fun k => M (6 + k)) (fun k => Z (6 + k)) :=
  ⟨fun k hk => h.own _ (by omega), fun j k hj hk hjk => h.ap _ _ (by omega) (by omega) (by omega), fun k _ j hj => by simp at hj, fun j k hj hk hjk => h.ap _ _ (by omega) (by omega) (by omega), fun k _ => Nat.zero_le _, fun k hk g hg => ((h.own _ (by omega)).lt g hg).2, fun k _ => .inl rfl, Nat.le_refl _, ⟨rfl, rfl, rfl⟩, fun k _ _ => rfl⟩

/-- behind apart all else is as it was -/
theorem Sta.apart (h : Sta w W b b2 bk bl vl cnt n xs G M Z O A A2 K) (h1 : W'.os = W.os) (h2 : W'.tape = W.tape) (h3 : W'.output = W.output) (h4 : W.heap.size ≤ W'.heap.size) (h5 : ∀ k, k < W.heap.size → (∀ j, j < cnt → (G (6 + j)).ownBlock ≠ some k) → W'.heap[k]? = W.heap[k]?) : Sta w W' b b2 bk bl vl 0 n xs G M Z O A A2 K := by
  have r2 : ∀ (k : Nat) (cs' : Array Value) (t' : Nat), t' ≠ 5 → W.heap[k]? = some (Obj.cells cs' t' (0, 0)) → W'.heap[k]? = some (Obj.cells cs' t' (0, 0)) := fun k cs' t' ht' hk => by
    rw [h5 k (lt_of_heap hk) (fun j hj e => (block_apart (h.own (6 + j) (by omega)) hk (Ne.symm ht')) e.symm)]; exact hk
  refine ⟨fun k hk => own_same (h.own k (by omega)) (fun g hg hlt => h5 g hlt (fun j hj e => ?_)), fun j k hj hk => h.ap j k (by omega) (by omega), h.z0, h.z1, h.z2, h.z3, h.z4, h.z5, r2 b _ 60 (by decide) h.hb, r2 b2 _ 60 (by decide) h.hb2, h.ne, r2 bk _ 30 (by decide) h.hk, r2 bl _ 31 (by decide) h.hl, ls_keep h.ls h.hb (by decide) (fun k cs' t' _ ht' hk => r2 k cs' t' ht' hk), h.lob,
    ⟨h1.trans h.bel.os, h2.trans h.bel.tape, h3.trans h.bel.output, Nat.le_trans h.bel.size h4, fun k hk => ?_⟩, fun k hk => by omega⟩
  · rcases h.ap (6 + j) k (by omega) (by omega) (by omega) with e2 | e2
    · rw [e2] at e; cases e
    · exact e2 (by rw [e, hg])
  · rw [h5 k (by have := h.bel.size; omega) (fun j hj e => by have := ((h.own (6 + j) (by omega)).lt k e).1; omega)]; exact h.bel.block k hk
end
end Go.Proofs.Ytfjfflkdcmpgnaa
