/- Apk -/
import Derived.Test.YtppefcnopkmhbaaGreatDoorPt29
import Derived.ArgAppend
namespace Go.Proofs.YtppefcnopkmhbaaGreatDoor
open Go.RowKit
theorem cell_later' {W W' : World} (hb : Below W.heap.size W W') {a : Addr} {v : Value} (h : W.cell? a = some v) : W'.cell? a = some v := by
  rw [hb.cell (lt_of_cell h)]; exact h
theorem grown_setCell (w : World) (p : Addr) (u : Value) : w.grownBy (w.setCell p u) (some p.block) :=
  ⟨rfl, rfl, rfl, by simp, fun k _ hne => Below.heap_setCell w p u k (fun e => hne (by rw [e]))⟩

/-- bytes that a value owns, more room in their block than the value says -/
def Lx (W : World) (base : Nat) (v : Value) (n : Nat) (xs : List Value) : Prop :=
  xs.length = n * 1 ∧ ((v = .slice none 0 0 ∧ n = 0) ∨ ∃ g cap cur, v = .slice (some ⟨g, 0, none⟩) n cap ∧ base ≤ g ∧ W.heap[g]? = some (.cells cur 5 (0, 0)) ∧ n ≤ cap ∧ cap ≤ maxLen ∧ cap ≤ cur.size ∧ cur.toList.take (n * 1) = xs)
theorem Lx.of {W : World} {base n : Nat} {v : Value} {xs : List Value} (h : W.ownsRow base 5 1 v n xs) : Lx W base v n xs := by
  refine ⟨h.1, ?_⟩
  rcases h.2 with h2 | ⟨g, cap, cur, hv, h3, h4, h5, h6, h7, h8⟩
  · exact .inl h2
  · exact .inr ⟨g, cap, cur, hv, h3, h4, h5, h6, by omega, h8⟩
theorem Lx.lt {W : World} {base n : Nat} {v : Value} {xs : List Value} (h : Lx W base v n xs) : ∀ k, v.ownBlock = some k → base ≤ k ∧ k < W.heap.size := by
  intro k hk
  rcases h.2 with ⟨rfl, _⟩ | ⟨g, cap, cur, rfl, hb, hg, _⟩
  · simp [Value.ownBlock] at hk
  · simp [Value.ownBlock] at hk
    subst hk
    exact ⟨hb, (Array.getElem?_eq_some_iff.1 hg).1⟩
theorem Lx.kept {W W' : World} {base n : Nat} {v : Value} {xs : List Value} {row : Option Nat} (h : Lx W base v n xs) (hg : W.grownBy W' row) (hne : v.ownBlock = none ∨ v.ownBlock ≠ row) : Lx W' base v n xs := by
  refine ⟨h.1, ?_⟩
  rcases h.2 with hn | ⟨g, cap, cur, rfl, hb, hgg, rest⟩
  · exact .inl hn
  · refine .inr ⟨g, cap, cur, rfl, hb, ?_, rest⟩
    rw [hg.block g (Array.getElem?_eq_some_iff.1 hgg).1 (by simpa [Value.ownBlock] using hne)]
    exact hgg
theorem Lx.alloc {W : World} {base n : Nat} {v : Value} {xs : List Value} (h : Lx W base v n xs) (o : Obj) : Lx (W.alloc o) base v n xs :=
  h.kept (World.grownBy_alloc W o none) (by cases hv : v.ownBlock <;> simp)
theorem lx_keep {W W' : World} {base n : Nat} {v : Value} {xs : List Value} (h : Lx W base v n xs) (hb : Below W.heap.size W W') : Lx W' base v n xs := by
  refine ⟨h.1, ?_⟩
  rcases h.2 with hn | ⟨g, cap, cur, rfl, hbb, hgg, rest⟩
  · exact .inl hn
  · refine .inr ⟨g, cap, cur, rfl, hbb, ?_, rest⟩
    rw [hb.block g (Array.getElem?_eq_some_iff.1 hgg).1]
    exact hgg
theorem lx_some {W : World} {base n : Nat} {v : Value} {xs : List Value} (h : Lx W base v n xs) (hn : 1 ≤ n) : ∃ g cap, v = .slice (some ⟨g, 0, none⟩) n cap ∧ n ≤ cap ∧ cap ≤ maxLen := by
  rcases h.2 with ⟨_, h0⟩ | ⟨g, cap, cur, rfl, _, _, h1, h2, _⟩
  · omega
  · exact ⟨g, cap, rfl, h1, h2⟩
theorem lx_shape {W : World} {base n : Nat} {v : Value} {xs : List Value} (h : Lx W base v n xs) : ∃ ao cap, v = .slice ao n cap := by
  rcases h.2 with ⟨rfl, rfl⟩ | ⟨g, cap, cur, rfl, _⟩
  · exact ⟨_, _, rfl⟩
  · exact ⟨_, _, rfl⟩
theorem Lx.cells {W : World} {base n : Nat} {v : Value} {xs : List Value} (h : Lx W base v n xs) {g : Nat} (hg : v.ownBlock = some g) : ∀ j u, xs[j]? = some u → W.cell? ((⟨g, 0, none⟩ : Addr).add j) = some u := by
  intro j u hu
  rcases h.2 with ⟨rfl, _⟩ | ⟨g', cap, cur, rfl, _, hgg, _, _, _, htake⟩
  · simp [Value.ownBlock] at hg
  · simp [Value.ownBlock] at hg
    subst hg
    rw [add_none, Nat.zero_add, cell_of_row W g' j cur 5 (0, 0) hgg]
    rw [← htake, List.getElem?_take] at hu
    split at hu
    · simpa using hu
    · cases hu
theorem Lx.cellAt {W : World} {base n g cap : Nat} {xs : List Value} (h : Lx W base (.slice (some ⟨g, 0, none⟩) n cap) n xs) (j : Nat) (hj : j < n * 1) : W.cell? ⟨g, j, none⟩ = xs[j]? := by
  rcases h.2 with ⟨h', _⟩ | ⟨g', cap', cur, h', _, hg, _, _, _, htake⟩
  · simp at h'
  · simp only [Value.slice.injEq, Option.some.injEq, Addr.mk.injEq, and_true, true_and] at h'
    obtain ⟨rfl, rfl⟩ := h'
    rw [cell_of_row W g j cur 5 (0, 0) hg, ← htake, List.getElem?_take, if_pos hj]
    simp
theorem Lx.frozenAt {W : World} {base n g cap : Nat} {xs : List Value} (h : Lx W base (.slice (some ⟨g, 0, none⟩) n cap) n xs) (j : Nat) : W.frozen? ⟨g, j, none⟩ = false := by
  rcases h.2 with ⟨h', _⟩ | ⟨g', cap', cur, h', _, hg, _⟩
  · simp at h'
  · simp only [Value.slice.injEq, Option.some.injEq, Addr.mk.injEq, and_true, true_and] at h'
    obtain ⟨rfl, rfl⟩ := h'
    exact frozen_of_row W g j cur 5 hg
theorem Lx.stored {W : World} {base n g cap : Nat} {xs : List Value} (h : Lx W base (.slice (some ⟨g, 0, none⟩) n cap) n xs) (j : Nat) (u : Value) :
    Lx (W.setCell ⟨g, j, none⟩ u) base (.slice (some ⟨g, 0, none⟩) n cap) n (xs.set j u) ∧ W.grownBy (W.setCell ⟨g, j, none⟩ u) (some g) := by
  rcases h.2 with ⟨h', _⟩ | ⟨g', cap', cur, h', hb, hg, hnc, hcm, hcs, htake⟩
  · simp at h'
  · simp only [Value.slice.injEq, Option.some.injEq, Addr.mk.injEq, and_true, true_and] at h'
    obtain ⟨rfl, rfl⟩ := h'
    refine ⟨⟨by simpa using h.1, .inr ⟨g, cap, cur.setIfInBounds j u, rfl, hb, heap_setCell_same W g j cur 5 u hg, hnc, hcm, by simpa using hcs, ?_⟩⟩,
      ⟨rfl, rfl, rfl, by simp, fun k _ hk => heap_setCell_other W ⟨g, j, none⟩ k u (fun e => hk (by simp [e]))⟩⟩
    rw [Array.toList_setIfInBounds, ← htake, List.take_set]
theorem lx_apart {W : World} {base base' e' size' n n' : Nat} {v v' : Value} {xs xs' : List Value} (h : Lx W base v n xs) (h' : W.ownsRow base' e' size' v' n' xs') (he : 5 ≠ e') : v.ownBlock = none ∨ v.ownBlock ≠ v'.ownBlock := by
  rcases h.2 with ⟨rfl, _⟩ | ⟨g, cap, cur, rfl, _, hg, _⟩
  · exact .inl rfl
  · refine .inr ?_
    rcases h'.2 with ⟨rfl, _⟩ | ⟨g', cap', cur', rfl, _, hg', _⟩
    · simp [Value.ownBlock]
    · intro e1
      simp [Value.ownBlock] at e1
      subst e1
      rw [hg] at hg'
      simp at hg'
      exact he hg'.2
theorem apart_lx {W : World} {base base' e' size' n n' : Nat} {v v' : Value} {xs xs' : List Value} (h' : W.ownsRow base' e' size' v' n' xs') (h : Lx W base v n xs) (he : e' ≠ 5) : v'.ownBlock = none ∨ v'.ownBlock ≠ v.ownBlock := by
  rcases lx_apart h h' (Ne.symm he) with e | e
  · rcases hv : v'.ownBlock with _ | g
    · exact .inl rfl
    · exact .inr (by rw [e]; simp)
  · exact .inr (Ne.symm e)
theorem run_fits_lx (w : World) {base g n cap : Nat} {xs : List Value} (hown : Lx w base (.slice (some ⟨g, 0, none⟩) n cap) n xs) (ty : Nat) (ad : Addr) (m c : Nat) (news : List Value) (hl : news.length = m) (hnews : ∀ j u, news[j]? = some u → w.cell? (ad.add j) = some u) (h1 : ∀ u ∈ news, u.oneCell' = true) (hroom : n + m ≤ cap) :
    ∃ w', (Builtin.append_ #[22, 22] ty #[.slice (some ⟨g, 0, none⟩) n cap, .slice (some ad) m c]).run Tryz.prog w = .ok (.slice (some ⟨g, 0, none⟩) (n + m) cap) w' ∧ Lx w' base (.slice (some ⟨g, 0, none⟩) (n + m) cap) (n + m) (xs ++ news) ∧ w.grownBy w' (some g) := by
  obtain ⟨i0, hi, hz0, hz1, hz2⟩ := info_parts info5
  rcases hown.2 with ⟨h, _⟩ | ⟨g', cap', cur, h, hbg, hg, hnc, hcm, hcs, htake⟩
  · simp at h
  · simp only [Value.slice.injEq, Option.some.injEq, Addr.mk.injEq, and_true, true_and] at h
    obtain ⟨rfl, rfl⟩ := h
    have hr := run_append_room (P := Tryz.prog) w 22 ty 5 i0 Tryz.underlying22 hi g n cap cur hg ad m c news (by rw [hz1]; omega) hnews h1 hroom (by rw [hz1]; omega)
    rw [hz1] at hr
    have hlen : (xs ++ news).length = (n + m) * 1 := by rw [List.length_append, hown.1, hl]; omega
    refine ⟨_, hr, ⟨hlen, .inr ⟨g, cap, _, rfl, hbg, setRow_heap w g cur _ 5 _ hg, hroom, hcm, ?_, ?_⟩⟩, ⟨rfl, rfl, rfl, by simp, fun k _ hk => setRow_other w g k _ (fun e => hk (by simp [e]))⟩⟩
    · simp only [List.size_toArray, List.length_append, List.length_take, List.length_drop, Array.length_toList]
      omega
    · rw [htake, ← hlen]
      exact List.take_left
/-- append to a list that is owned: the new one is owned; the old one's bytes stay where they were -/
theorem append_keep {w : World} {ops : Array Oper} {rest : List Oper} {o : Oper} {a : Act} {Q : Exit → Act → World → Prop} (hgd : o.guard = none) (s x : Operand)
    (ho : o.op = .call { callee := .builtin .append, args := #[s, x], argTypes := #[22, 22] })
    (base : Nat) (v : Value) (n : Nat) (xs : List Value) (hs : a.eval s = v) (hown : Lx w base v n xs)
    (ad : Addr) (m c : Nat) (news : List Value) (hx : a.eval x = .slice (some ad) m c) (hl : news.length = m) (hm : 1 ≤ m)
    (hnews : ∀ j u, news[j]? = some u → w.cell? (ad.add j) = some u) (h1 : ∀ u ∈ news, u.oneCell' = true) (hb : n + m ≤ 140737488355328) (hbase : base ≤ w.heap.size)
    (h : ∀ v' w', Lx w' base v' (n + m) (xs ++ news) → w.grownBy w' v.ownBlock → (∀ g j, v.ownBlock = some g → j < n → w'.cell? ⟨g, j, none⟩ = w.cell? ⟨g, j, none⟩) → (v'.ownBlock = v.ownBlock ∨ ∃ q, v'.ownBlock = some q ∧ w.heap.size ≤ q) → wpList Tryz.prog ops Q rest (a.put o.dst v') w') :
    wpList Tryz.prog ops Q (o :: rest) a w := by
  obtain ⟨i0, hi, hz0, hz1, hz2⟩ := info_parts info5
  have fresh : ∀ {v' : Value} {w' : World}, w'.ownsRow w.heap.size 5 1 v' (n + m) (xs ++ news) → ∃ q, v'.ownBlock = some q ∧ w.heap.size ≤ q := by
    intro v' w' h'
    obtain ⟨g, cap, rfl, _, _⟩ := own_some h' (by omega)
    exact ⟨g, rfl, (h'.lt g rfl).1⟩
  rcases hown.2 with ⟨hv, h0⟩ | ⟨g, cap, cur, hv, hg1, hg2, hg3, hg4, hg5, hg6⟩
  · subst hv
    subst h0
    have hxs : xs = [] := List.eq_nil_of_length_eq_zero (by have := hown.1; omega)
    subst hxs
    refine wpList_append_grows w hgd s x 22 ho 5 i0 (.int .u8 0) 1 1 Tryz.underlying22 hi hz0 hz1 hz2 rfl (by decide) none 0 0 [] hs (fun _ => ⟨rfl, rfl⟩) rfl (fun b hb => by cases hb) ad m c news hx (by omega) hnews h1 (by omega) (by unfold maxLen; omega) (by omega) ?_
    intro v' w' h2 h3
    exact h v' w' (Lx.of (own_lower h2 hbase)) h3 (fun g j hg => by simp [Value.ownBlock] at hg) (.inr (fresh h2))
  · subst hv
    by_cases hroom : n + m ≤ cap
    · obtain ⟨w', hr, h2, h3⟩ := run_fits_lx w hown o.type ad m c news hl hnews h1 hroom
      refine wpList_plain hgd fun K hK' => ?_
      unfold Oper.wp
      simp [execOp, ho, resolve, invoke, builtin, hs, hx, hr, Result.andThen]
      refine hK' _ _ ?_
      refine h _ w' h2 h3 ?_ (.inl rfl)
      intro g' j hg hj
      simp [Value.ownBlock] at hg
      subst hg
      rw [h2.cellAt j (by omega), hown.cellAt j (by omega), List.getElem?_append_left (by have := hown.1; omega)]
    · refine wpList_append_grows w hgd s x 22 ho 5 i0 (.int .u8 0) 1 1 Tryz.underlying22 hi hz0 hz1 hz2 rfl (by decide) (some ⟨g, 0, none⟩) n cap xs hs (fun hh => by cases hh) hown.1 (fun b hb j u hu => by cases hb; exact hown.cells rfl j u hu) ad m c news hx (by omega) hnews h1 (by omega) (by unfold maxLen; omega) (by omega) ?_
      intro v' w' h2 h3
      refine h v' w' (Lx.of (own_lower h2 hbase)) ⟨h3.os, h3.tape, h3.output, h3.size, fun k hk _ => h3.block k hk (by simp)⟩ ?_ (.inr (fresh h2))
      intro g' j hg hj
      simp [Value.ownBlock] at hg
      subst hg
      exact World.cell?_of_block (a := ⟨g, j, none⟩) (h3.block g (Array.getElem?_eq_some_iff.1 hg2).1 (by simp))

/-- m lists, list k now the value G k with the cells Z k; the first lists X with marks at their first N k cells. -/
structure Many (w0 W : World) (base m : Nat) (X : Nat → Value) (N : Nat → Nat) (mark : Nat → Value) (G : Nat → Value) (M : Nat → Nat) (Z : Nat → List Value) : Prop where
  own : ∀ k, k < m → Lx W base (G k) (M k) (Z k)
  ap : ∀ j k, j < m → k < m → j ≠ k → (G j).ownBlock = none ∨ (G j).ownBlock ≠ (G k).ownBlock
  px : ∀ k, k < m → ∀ j, j < N k → ∃ g, (X k).ownBlock = some g ∧ W.cell? ⟨g, j, none⟩ = some (mark k)
  xa : ∀ j k, j < m → k < m → j ≠ k → (X k).ownBlock = none ∨ (X k).ownBlock ≠ (G j).ownBlock
  le : ∀ k, k < m → N k ≤ M k
  lt : ∀ k, k < m → ∀ g, (X k).ownBlock = some g → g < w0.heap.size
  fr : ∀ k, k < m → (G k).ownBlock = (X k).ownBlock ∨ ∃ q, (G k).ownBlock = some q ∧ w0.heap.size ≤ q
  sz : w0.heap.size ≤ W.heap.size
  ee : W.os = w0.os ∧ W.tape = w0.tape ∧ W.output = w0.output
  only : ∀ k, k < w0.heap.size → (∀ j, j < m → (X j).ownBlock ≠ some k) → W.heap[k]? = w0.heap[k]?

/-- one function, turned at one place -/
def upd {α : Type} (F : Nat → α) (i : Nat) (x : α) : Nat → α := fun k => if k = i then x else F k
theorem upd_same {α : Type} (F : Nat → α) (i : Nat) (x : α) : upd F i x i = x := by simp [upd]
theorem upd_ne {α : Type} (F : Nat → α) {i k : Nat} (x : α) (h : k ≠ i) : upd F i x k = F k := by simp [upd, h]

/-- new blocks turn nothing -/
theorem Many.below {w0 W W' : World} {base m : Nat} {X G : Nat → Value} {N M : Nat → Nat} {mark : Nat → Value} {Z : Nat → List Value} (h : Many w0 W base m X N mark G M Z) (hb : Below W.heap.size W W') : Many w0 W' base m X N mark G M Z := by
  have z := hb.size
  have s := h.sz
  refine ⟨fun k hk => lx_keep (h.own k hk) hb, h.ap, fun k hk j hj => ?_, h.xa, h.le, h.lt, h.fr, by omega, ⟨hb.os.trans h.ee.1, hb.tape.trans h.ee.2.1, hb.output.trans h.ee.2.2⟩, fun k hk hn => ?_⟩
  · obtain ⟨g, h1, h2⟩ := h.px k hk j hj
    exact ⟨g, h1, cell_later' hb h2⟩
  · rw [hb.block k (by omega)]; exact h.only k hk hn

/-- one list is grown -/
theorem Many.grow {w0 W W' : World} {base m : Nat} {X G : Nat → Value} {N M : Nat → Nat} {mark : Nat → Value} {Z : Nat → List Value} (h : Many w0 W base m X N mark G M Z) {i : Nat} (hi : i < m) {v' : Value} {r : Nat} {zs : List Value} (hr : M i ≤ r)
    (hown : Lx W' base v' r zs) (hg : W.grownBy W' (G i).ownBlock) (hp : ∀ g j, (G i).ownBlock = some g → j < N i → W'.cell? ⟨g, j, none⟩ = W.cell? ⟨g, j, none⟩)
    (hf : v'.ownBlock = (G i).ownBlock ∨ ∃ q, v'.ownBlock = some q ∧ W.heap.size ≤ q) : Many w0 W' base m X N mark (upd G i v') (upd M i r) (upd Z i zs) := by
  have z := hg.size
  have s := h.sz
  have hfar : ∀ (v : Value), (∀ g, v.ownBlock = some g → g < W.heap.size) → (v.ownBlock = none ∨ v.ownBlock ≠ (G i).ownBlock) → v.ownBlock = none ∨ v.ownBlock ≠ v'.ownBlock := by
    intro v hv h1
    rcases hf with e | ⟨q, e, hq⟩
    · rw [e]; exact h1
    · rw [e]
      rcases hvb : v.ownBlock with _ | g
      · exact .inl rfl
      · have := hv g hvb
        exact .inr (by simp; omega)
  have hsym : ∀ {u v : Value}, (u.ownBlock = none ∨ u.ownBlock ≠ v.ownBlock) → (v.ownBlock = none ∨ v.ownBlock ≠ u.ownBlock) := by
    intro u v h1
    rcases hv : v.ownBlock with _ | g
    · exact .inl rfl
    · right
      rcases h1 with e | e
      · rw [e]; simp
      · intro e2; exact e (by rw [← e2, hv])
  refine ⟨fun k hk => ?_, fun j k hj hk hjk => ?_, fun k hk j hj => ?_, fun j k hj hk hjk => ?_, fun k hk => ?_, h.lt, fun k hk => ?_, by omega, ⟨hg.os.trans h.ee.1, hg.tape.trans h.ee.2.1, hg.output.trans h.ee.2.2⟩, fun k hk hn => ?_⟩
  · by_cases e : k = i
    · subst e; rw [upd_same, upd_same, upd_same]; exact hown
    · rw [upd_ne _ _ e, upd_ne _ _ e, upd_ne _ _ e]; exact (h.own k hk).kept hg (h.ap k i hk hi e)
  · by_cases e : j = i
    · subst e
      rw [upd_same, upd_ne _ _ (Ne.symm hjk)]
      exact hsym (hfar (G k) (fun g hgk => ((h.own k hk).lt g hgk).2) (h.ap k j hk hj (Ne.symm hjk)))
    · rw [upd_ne _ _ e]
      by_cases e2 : k = i
      · subst e2
        rw [upd_same]
        exact hfar (G j) (fun g hgj => ((h.own j hj).lt g hgj).2) (h.ap j k hj hk hjk)
      · rw [upd_ne _ _ e2]; exact h.ap j k hj hk hjk
  · obtain ⟨g, h1, h2⟩ := h.px k hk j hj
    refine ⟨g, h1, ?_⟩
    by_cases e : (G i).ownBlock = some g
    · by_cases e2 : k = i
      · subst e2
        rw [hp g j e hj]; exact h2
      · exfalso
        rcases h.xa i k hi hk (Ne.symm e2) with h3 | h3
        · rw [h3] at h1; cases h1
        · exact h3 (by rw [h1, e])
    · rw [World.cell?_of_block (a := ⟨g, j, none⟩) (hg.block g (lt_of_cell h2) (Ne.symm e))]; exact h2
  · by_cases e : j = i
    · subst e
      rw [upd_same]
      exact hfar (X k) (fun g hgk => by have := h.lt k hk g hgk; omega) (h.xa j k hj hk hjk)
    · rw [upd_ne _ _ e]; exact h.xa j k hj hk hjk
  · by_cases e : k = i
    · subst e; rw [upd_same]; have := h.le k hk; omega
    · rw [upd_ne _ _ e]; exact h.le k hk
  · by_cases e : k = i
    · subst e
      rw [upd_same]
      rcases hf with e2 | ⟨q, e2, hq⟩
      · rw [e2]; exact h.fr k hk
      · exact .inr ⟨q, e2, by omega⟩
    · rw [upd_ne _ _ e]; exact h.fr k hk
  · rw [hg.block k (by omega) ?_]
    · exact h.only k hk hn
    · intro e
      rcases h.fr i hi with h1 | ⟨q, h1, hq⟩
      · exact hn i hi (by rw [← h1]; exact e.symm)
      · rw [h1] at e; simp at e; omega

/-- one byte is stored -/
theorem Many.store {w0 W : World} {base m : Nat} {X : Nat → Value} {M : Nat → Nat} {mark : Nat → Value} {Z : Nat → List Value} (h : Many w0 W base m X (fun _ => 0) mark X M Z) {i : Nat} (hi : i < m) {g c : Nat} (hx : X i = .slice (some ⟨g, 0, none⟩) (M i) c) (j : Nat) (u : Value) :
    Many w0 (W.setCell ⟨g, j, none⟩ u) base m X (fun _ => 0) mark X M (upd Z i ((Z i).set j u)) := by
  have ho := h.own i hi
  rw [hx] at ho
  obtain ⟨h1, h2⟩ := ho.stored j u
  have hb : (X i).ownBlock = some g := by rw [hx]; rfl
  have h3 := h.grow hi (v' := X i) (r := M i) (zs := (Z i).set j u) (Nat.le_refl _) (by rw [hx]; exact h1) (by rw [hb]; exact h2) (fun _ _ _ hj => by simp at hj) (.inl rfl)
  have e1 : upd X i (X i) = X := by funext k; unfold upd; split <;> simp_all
  have e2 : upd M i (M i) = M := by funext k; unfold upd; split <;> simp_all
  rw [e1, e2] at h3
  exact h3

/-- all lists are marked -/
theorem Many.marked {w0 W : World} {base m : Nat} {X : Nat → Value} {M : Nat → Nat} {mark : Nat → Value} {Z : Nat → List Value} (h : Many w0 W base m X (fun _ => 0) mark X M Z) (hz : ∀ k, k < m → Z k = List.replicate (M k) (mark k)) :
    Many w0 W base m X M mark X M Z := by
  refine ⟨h.own, h.ap, fun k hk j hj => ?_, h.xa, fun k _ => Nat.le_refl _, h.lt, h.fr, h.sz, h.ee, h.only⟩
  obtain ⟨g, cap, hv, _, _⟩ := lx_some (h.own k hk) (by omega)
  have ho := h.own k hk
  rw [hv] at ho
  refine ⟨g, by rw [hv]; rfl, ?_⟩
  rw [ho.cellAt j (by omega), hz k hk]
  simp [hj]

theorem take_set {ys : List Value} {j : Nat} {u : Value} (hj : j < ys.length) (h : ys.take j = List.replicate j u) : (ys.set j u).take (j + 1) = List.replicate (j + 1) u := by
  have e : (ys.set j u).take j = ys.take j := by
    apply List.ext_getElem?
    intro k
    rw [List.getElem?_take, List.getElem?_take]
    split
    · rw [List.getElem?_set_ne (by omega)]
    · rfl
  rw [List.take_succ_eq_append_getElem (by simpa using hj), e, h]
  simp [List.replicate_succ']

/-- the rows of the lists of lists stay -/
theorem Many.rows {W W' : World} {base base' n size e : Nat} {v vg : Value} {xs zs : List Value} {M : Nat} (h : W.ownsRow base' e size v n xs) (hg : Lx W base vg M zs) (he : e ≠ 5) (hgr : W.grownBy W' vg.ownBlock) : W'.ownsRow base' e size v n xs :=
  h.kept hgr (apart_lx h hg he)

/-- one list is grown by an append whose bytes lie in a new block -/
theorem Many.app {w0 W W' : World} {base m : Nat} {X G : Nat → Value} {N M : Nat → Nat} {mark : Nat → Value} {Z : Nat → List Value} (h : Many w0 W base m X N mark G M Z) {k : Nat} (hk : k < m) {x : Obj} {vg v' : Value} {n r : Nat} {zs : List Value} (hvg : vg = G k) (hn : M k = n) (hr : n ≤ r)
    (hown : Lx W' base v' r zs) (hg : (W.alloc x).grownBy W' vg.ownBlock) (hp : ∀ g j, vg.ownBlock = some g → j < n → W'.cell? ⟨g, j, none⟩ = (W.alloc x).cell? ⟨g, j, none⟩)
    (hf : v'.ownBlock = vg.ownBlock ∨ ∃ q, v'.ownBlock = some q ∧ W.heap.size + 1 ≤ q) :
    Many w0 W' base m X N mark (upd G k v') (upd M k r) (upd Z k zs) ∧ ∀ (base' e size n' : Nat) (v : Value) (xs : List Value), e ≠ 5 → W.ownsRow base' e size v n' xs → W'.ownsRow base' e size v n' xs := by
  subst hvg
  subst hn
  have h1 := h.below (bAlloc (Below.refl _ _) x)
  refine ⟨h1.grow hk hr hown hg (fun g j e hj => hp g j e (by have := h.le k hk; omega)) ?_, fun base' e size n' v xs he hv => ?_⟩
  · rcases hf with e | ⟨q, e, hq⟩
    · exact .inl e
    · exact .inr ⟨q, e, by simpa using hq⟩
  · exact Many.rows (hv.alloc x) (h1.own k hk) he hg

/-- a block that is none of the lists is written -/
theorem Many.far {w0 W W' : World} {base m : Nat} {X G : Nat → Value} {N M : Nat → Nat} {mark : Nat → Value} {Z : Nat → List Value} (h : Many w0 W base m X N mark G M Z) {b : Nat} (hg : W.grownBy W' (some b)) (hb : w0.heap.size ≤ b) (hne : ∀ k, k < m → (G k).ownBlock ≠ some b) : Many w0 W' base m X N mark G M Z := by
  have z := hg.size
  have s := h.sz
  refine ⟨fun k hk => (h.own k hk).kept hg (.inr (hne k hk)), h.ap, fun k hk j hj => ?_, h.xa, h.le, h.lt, h.fr, by omega, ⟨hg.os.trans h.ee.1, hg.tape.trans h.ee.2.1, hg.output.trans h.ee.2.2⟩, fun k hk hn => ?_⟩
  · obtain ⟨g, h1, h2⟩ := h.px k hk j hj
    have h3 := h.lt k hk g h1
    exact ⟨g, h1, by rw [World.cell?_of_block (a := ⟨g, j, none⟩) (hg.block g (by omega) (by simp; omega))]; exact h2⟩
  · rw [hg.block k (by omega) (by simp; omega)]; exact h.only k hk hn

/-- a list's new value is stored into the list of lists -/
theorem Many.put {w0 W : World} {base m : Nat} {X G : Nat → Value} {N M : Nat → Nat} {mark : Nat → Value} {Z : Nat → List Value} (h : Many w0 W base m X N mark G M Z) {b n : Nat} {xs : List Value} (hb : w0.heap.size ≤ b) (hF : W.ownsRow base 22 1 (.slice (some ⟨b, 0, none⟩) n n) n xs) (j : Nat) (v : Value) :
    Many w0 (W.setCell ⟨b, j, none⟩ v) base m X N mark G M Z ∧ (W.setCell ⟨b, j, none⟩ v).ownsRow base 22 1 (.slice (some ⟨b, 0, none⟩) n n) n (xs.set j v) ∧
      ∀ (base' e size n' : Nat) (u : Value) (ys : List Value), u.ownBlock ≠ some b → W.ownsRow base' e size u n' ys → (W.setCell ⟨b, j, none⟩ v).ownsRow base' e size u n' ys := by
  have g := grown_setCell W ⟨b, j, none⟩ v
  refine ⟨h.far g hb (fun k hk => ?_), (hF.stored j v).1, fun base' e size n' u ys hu hv => hv.kept g (.inr hu)⟩
  rcases lx_apart (h.own k hk) hF (by decide) with e | e
  · rw [e]; simp
  · exact e

/-- the list of lists that is being filled -/
def fillL (m i : Nat) (G : Nat → Value) : List Value := (List.range m).map fun k => if k < i then G k else .slice none 0 0
theorem fillL_zero (m : Nat) (G : Nat → Value) : fillL m 0 G = List.replicate m (.slice none 0 0) := by
  unfold fillL
  apply List.ext_getElem?
  intro k
  by_cases hk : k < m <;> simp [hk]
theorem fillL_at (m i k : Nat) (G : Nat → Value) (hk : k < m) (hi : k < i) : (fillL m i G)[k]? = some (G k) := by simp [fillL, hk, hi]
theorem fillL_set (m i : Nat) (G G' : Nat → Value) (hi : i < m) (hG : ∀ k, k < i → G' k = G k) : (fillL m i G).set i (G' i) = fillL m (i + 1) G' := by
  apply List.ext_getElem?
  intro k
  unfold fillL
  rw [List.getElem?_set]
  by_cases hki : i = k
  · subst hki
    simp [hi]
  · rw [if_neg hki]
    by_cases hk : k < m
    · by_cases hlt : k < i
      · simp [hk, hlt, hG k hlt, show k < i + 1 from by omega]
      · simp [hk, hlt, show ¬ k < i + 1 from by omega]
    · simp [hk]
theorem fillL_again (m i : Nat) (G G' : Nat → Value) (hi : i < m) (hG : ∀ k, k ≠ i → G' k = G k) : (fillL m m G).set i (G' i) = fillL m m G' := by
  apply List.ext_getElem?
  intro k
  unfold fillL
  rw [List.getElem?_set]
  by_cases hki : i = k
  · subst hki
    simp [hi]
  · rw [if_neg hki]
    by_cases hk : k < m
    · simp [hk, hG k (Ne.symm hki)]
    · simp [hk]
end Go.Proofs.YtppefcnopkmhbaaGreatDoor
