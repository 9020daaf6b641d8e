/- The contract of quoinlaw01.awake: it answers true, and turns nothing that was there. -/
import Derived.Test.YtmhpeppbhjpkiaaGreatPm09
import Derived.Lib.BufferRead
import Derived.Test.YtmhpeppbhjpkiaaGreatPm12
import Derived.Laws.AppendOwnNone
namespace Go.Proofs.YtmhpeppbhjpkiaaGreat.Ab
open Go.RowKit

theorem touch_below {B : Nat} {w W W' : World} {b : Nat} {row : Option Nat} (h : Below B w W) (ht : Touch W W' b row) (hB : B ≤ W.heap.size) (hb : B ≤ b) (hr : ∀ k, row = some k → B ≤ k) : Below B w W' :=
  ⟨ht.os.trans h.os, ht.tape.trans h.tape, ht.output.trans h.output, Nat.le_trans h.size ht.size, fun k hk => by
    rw [ht.block k (by omega) (by omega) (fun e => absurd (hr k e.symm) (by omega))]; exact h.block k hk⟩

/-- 'string(p)' of bytes that can be read -/
theorem conv_rd {W : World} {v : Value} {l : List UInt8} (h : Rd W v l) : (convert 22 9 v).run Tryz.prog W = .ok (.string ⟨l.toArray⟩) W := by
  rcases h with ⟨rfl, rfl⟩ | ⟨a, c, rfl, hc⟩
  · exact Lib.run_convert_nil_bytes W 22 9 5 0 Tryz.underlying22 Tryz.underlying5 Tryz.underlying9
  · exact run_convert_bytes_back W 22 9 5 a c l Tryz.underlying22 Tryz.underlying5 Tryz.underlying9 (fun j hj => hc j _ (bv_at l j hj))

/-- a literal's bytes, in a new block -/
theorem rd_lit (w : World) (l : List UInt8) (C : Array Value) (m : Nat × Nat) (c : Nat) (hC : C.toList = bv l) : Rd (w.alloc (.cells C 5 m)) (.slice (some ⟨w.heap.size, 0, none⟩) l.length c) l := by
  refine .inr ⟨_, c, rfl, fun j u hu => ?_⟩
  have : (⟨w.heap.size, 0, none⟩ : Addr).add j = ⟨w.heap.size, j, none⟩ := by unfold Addr.add; split <;> simp_all
  rw [this, World.cell?_alloc_mark, ← Array.getElem?_toList, hC]; exact hu

end Go.Proofs.YtmhpeppbhjpkiaaGreat.Ab

/- The contracts of quoinlaw01.same and quoinlaw01.lined: lined answers true for the bytes that a span stands for. -/
namespace Go.Proofs.YtmhpeppbhjpkiaaGreat.Ab
open Go.RowKit

theorem lt_of_cell {w : World} {a : Addr} {v : Value} (h : w.cell? a = some v) : a.block < w.heap.size := by
  rcases Nat.lt_or_ge a.block w.heap.size with h' | h'
  · exact h'
  · simp [World.cell?, Array.getElem?_eq_none h'] at h

theorem RdB.keep {w w' : World} {v : Value} {l : List UInt8} (h : RdB w v l) (hb : Below w.heap.size w w') : RdB w' v l := by
  rcases h with h | ⟨g, o, c, rfl, hc⟩
  · exact .inl h
  · refine .inr ⟨g, o, c, rfl, fun j u hu => ?_⟩
    have h1 := hc j u hu
    rw [hb.cell (lt_of_cell h1)]; exact h1

end Go.Proofs.YtmhpeppbhjpkiaaGreat.Ab

/- Plain facts on lists: the spans that Add tells, and the bytes that they stand for. -/
namespace Go.Proofs.YtmhpeppbhjpkiaaGreat.Ab
open Go.RowKit

/-- what was added by the first j texts -/
def flat (T : List (List UInt8)) (j : Nat) : List UInt8 := (T.take j).flatten
/-- text number j -/
def txt (T : List (List UInt8)) (j : Nat) : List UInt8 := T.getD j []
/-- the original text, and then the texts -/
def allT (O : List UInt8) (T : List (List UInt8)) (j : Nat) : List UInt8 := (O :: T).getD j []
def spS (j : Nat) : Int := if j = 0 then 0 else 1
def spO (T : List (List UInt8)) (j : Nat) : Nat := (flat T (j - 1)).length
def spL (O : List UInt8) (T : List (List UInt8)) (j : Nat) : Nat := (allT O T j).length
/-- the bytes counted by the law's first loop -/
def tot (O : List UInt8) (T : List (List UInt8)) (j : Nat) : Nat := O.length + (flat T j).length + j
/-- the cells of the first n spans -/
def spCells (O : List UInt8) (T : List (List UInt8)) (n : Nat) : List Value :=
  (List.range n).flatMap fun j => [.int .i64 (spS j), .int .i64 (spO T j : Int), .int .i64 (spL O T j : Int)]

theorem flat_zero (T : List (List UInt8)) : flat T 0 = [] := by simp [flat]
theorem flat_succ (T : List (List UInt8)) (j : Nat) (h : j < T.length) : flat T (j + 1) = flat T j ++ txt T j := by
  unfold flat txt
  rw [List.take_succ_eq_append_getElem h, List.flatten_append]
  simp [List.getD, h]
theorem txt_eq (T : List (List UInt8)) (j : Nat) (h : j < T.length) : txt T j = T[j] := by simp [txt, h]
theorem allT_zero (O : List UInt8) (T : List (List UInt8)) : allT O T 0 = O := by simp [allT]
theorem allT_succ (O : List UInt8) (T : List (List UInt8)) (j : Nat) : allT O T (j + 1) = txt T j := by simp [allT, txt]
theorem tot_zero (O : List UInt8) (T : List (List UInt8)) : tot O T 0 = O.length := by simp [tot, flat]
theorem tot_succ (O : List UInt8) (T : List (List UInt8)) (j : Nat) (h : j < T.length) : tot O T (j + 1) = tot O T j + ((txt T j).length + 1) := by
  unfold tot; rw [flat_succ T j h, List.length_append]; omega
theorem spCells_length (O : List UInt8) (T : List (List UInt8)) (n : Nat) : (spCells O T n).length = n * 3 := by
  unfold spCells
  induction n with
  | zero => simp
  | succ n ih => rw [List.range_succ, List.flatMap_append, List.length_append, ih]; simp; omega
theorem spCells_succ (O : List UInt8) (T : List (List UInt8)) (n : Nat) : spCells O T (n + 1) = spCells O T n ++ [.int .i64 (spS n), .int .i64 (spO T n : Int), .int .i64 (spL O T n : Int)] := by
  unfold spCells; rw [List.range_succ, List.flatMap_append]; simp
theorem spCells_one (O : List UInt8) (T : List (List UInt8)) : spCells O T 1 = [.int .i64 0, .int .i64 0, .int .i64 (O.length : Int)] := by
  simp [spCells, spS, spO, spL, allT, flat]
theorem spCells_at (O : List UInt8) (T : List (List UInt8)) (n j : Nat) (h : j < n) :
    (spCells O T n)[j * 3]? = some (.int .i64 (spS j)) ∧ (spCells O T n)[j * 3 + 1]? = some (.int .i64 (spO T j : Int)) ∧ (spCells O T n)[j * 3 + 2]? = some (.int .i64 (spL O T j : Int)) := by
  induction n with
  | zero => omega
  | succ n ih =>
    rw [spCells_succ]
    have hl := spCells_length O T n
    rcases Nat.lt_or_ge j n with hj | hj
    · obtain ⟨h1, h2, h3⟩ := ih hj
      rw [List.getElem?_append_left (by omega), List.getElem?_append_left (by omega), List.getElem?_append_left (by omega)]
      exact ⟨h1, h2, h3⟩
    · obtain rfl : j = n := by omega
      rw [List.getElem?_append_right (by omega), List.getElem?_append_right (by omega), List.getElem?_append_right (by omega), hl]
      simp

/-- the whole of the added bytes, cut at a span -/
theorem flat_cut (T : List (List UInt8)) (j : Nat) (h : j < T.length) : ((flat T T.length).drop (flat T j).length).take (txt T j).length = txt T j := by
  have e : flat T T.length = flat T j ++ (txt T j ++ (T.drop (j + 1)).flatten) := by
    unfold flat txt
    rw [List.take_length]
    have h1 : T = T.take j ++ (T[j] :: T.drop (j + 1)) := by rw [List.getElem_cons_drop]; simp
    conv => lhs; rw [h1]
    rw [List.flatten_append, List.flatten_cons]
    simp [List.getD, h]
  rw [e, List.drop_left, List.take_left]
theorem flat_le (T : List (List UInt8)) (j : Nat) (h : j < T.length) : (flat T j).length + (txt T j).length ≤ (flat T T.length).length := by
  have e := flat_cut T j h
  have := congrArg List.length e
  simp at this
  rcases Nat.eq_zero_or_pos (txt T j).length with hz | hz
  · have h2 : flat T j = (flat T T.length).take (flat T j).length := by
      unfold flat
      rw [List.take_length]
      have h1 : T = T.take j ++ T.drop j := by simp
      conv => rhs; rw [h1]
      rw [List.flatten_append]
      simp
    have := congrArg List.length h2
    simp at this
    omega
  · omega
theorem which_sp (O A : List UInt8) (j : Nat) : which (spS j) O A = if j = 0 then O else A := by
  unfold which spS
  split <;> simp_all
theorem sp_cut (O : List UInt8) (T : List (List UInt8)) (j : Nat) (h : j < T.length + 1) : cutL (spS j) (spO T j) (spL O T j) O (flat T T.length) = allT O T j := by
  unfold cutL
  rw [which_sp]
  cases j with
  | zero => simp [spO, spL, flat, allT]
  | succ k =>
    simp only [Nat.succ_ne_zero, if_false, spO, spL, Nat.add_sub_cancel, allT_succ, Int.toNat_natCast]
    exact flat_cut T k (by omega)
theorem sp_le (O : List UInt8) (T : List (List UInt8)) (j : Nat) (h : j < T.length + 1) : spO T j + spL O T j ≤ (which (spS j) O (flat T T.length)).length := by
  rw [which_sp]
  cases j with
  | zero => simp [spO, spL, flat, allT]
  | succ k =>
    simp only [Nat.succ_ne_zero, if_false, spO, spL, Nat.add_sub_cancel, allT_succ]
    exact flat_le T k (by omega)
theorem sp_sound (O : List UInt8) (T : List (List UInt8)) (j : Nat) (h : j < T.length + 1) (hO : O.length ≤ 4611686018427387904) (hA : (flat T T.length).length ≤ 4611686018427387904) : sndB (spS j) (spO T j) (spL O T j) = true := by
  have h1 := sp_le O T j h
  rw [which_sp] at h1
  unfold sndB
  refine decide_eq_true ⟨?_, by omega, by omega, ?_⟩
  · unfold spS; split <;> simp
  · split at h1 <;> omega

theorem sp_one (j : Nat) : spS (j + 1) = 1 := by simp [spS]
theorem spO_next (O : List UInt8) (T : List (List UInt8)) (j : Nat) (h : j < T.length) : spO T (j + 2) = spO T (j + 1) + spL O T (j + 1) := by
  unfold spO spL
  simp only [Nat.add_sub_cancel, allT_succ]
  rw [show j + 2 - 1 = j + 1 from rfl, flat_succ T j h, List.length_append]
theorem sp_joins (O : List UInt8) (T : List (List UInt8)) (j : Nat) (h : j + 2 < T.length + 1) (hO : O.length ≤ 4611686018427387904) (hA : (flat T T.length).length ≤ 4611686018427387904) :
    jnB (spS (j + 1)) (spO T (j + 1)) (spL O T (j + 1)) (spS (j + 2)) (spO T (j + 2)) (spL O T (j + 2)) = true := by
  unfold jnB
  rw [sp_sound O T (j + 1) (by omega) hO hA, sp_sound O T (j + 2) h hO hA, sp_one, sp_one (j + 1), spO_next O T j (by omega)]
  simp
theorem flat_cut2 (T : List (List UInt8)) (j : Nat) (h : j + 1 < T.length) : ((flat T T.length).drop (flat T j).length).take ((txt T j).length + (txt T (j + 1)).length) = txt T j ++ txt T (j + 1) := by
  have e : flat T T.length = flat T j ++ ((txt T j ++ txt T (j + 1)) ++ (T.drop (j + 2)).flatten) := by
    unfold flat txt
    rw [List.take_length]
    have h1 : T = T.take j ++ (T[j] :: T[j + 1] :: T.drop (j + 2)) := by rw [List.getElem_cons_drop, List.getElem_cons_drop]; simp
    conv => lhs; rw [h1]
    rw [List.flatten_append, List.flatten_cons, List.flatten_cons]
    simp [List.getD, h, show j < T.length from by omega]
  rw [e, List.drop_left, ← List.length_append, List.take_left]
theorem sp_cut2 (O : List UInt8) (T : List (List UInt8)) (j : Nat) (h : j + 2 < T.length + 1) : cutL 1 (spO T (j + 1)) ((spL O T (j + 1) + spL O T (j + 2) : Nat) : Int) O (flat T T.length) = allT O T (j + 1) ++ allT O T (j + 2) := by
  have e1 : which 1 O (flat T T.length) = flat T T.length := by simp [which]
  unfold cutL
  rw [e1]
  simp only [spO, spL, Nat.add_sub_cancel, allT_succ, Int.toNat_natCast]
  exact flat_cut2 T j (by omega)
theorem sp_le2 (O : List UInt8) (T : List (List UInt8)) (j : Nat) (h : j + 2 < T.length + 1) : spO T (j + 1) + (spL O T (j + 1) + spL O T (j + 2)) ≤ (which 1 O (flat T T.length)).length := by
  have h1 := sp_le O T (j + 2) h
  have h2 := spO_next O T j (by omega)
  rw [sp_one (j + 1)] at h1
  omega
theorem tot_ge (O : List UInt8) (T : List (List UInt8)) : (flat T T.length).length ≤ tot O T T.length := by unfold tot; omega
theorem txt_le (O : List UInt8) (T : List (List UInt8)) (j : Nat) (h : j < T.length) : (txt T j).length ≤ tot O T T.length := by
  have := flat_le T j h; unfold tot; omega
end Go.Proofs.YtmhpeppbhjpkiaaGreat.Ab

/- What the walk of quoinlaw01.AddbufStays leans on: lists of lists that came in, an append of them, and how rows stay behind Add. -/
namespace Go.Proofs.YtmhpeppbhjpkiaaGreat.Ab
open Go.RowKit

/-- A list of lists that came in: its cells hold the values tv, which read as the texts T. -/
structure TxAt (W : World) (ao : Option Addr) (c : Nat) (tv : List Value) (T : List (List UInt8)) : Prop where
  len : tv.length = T.length
  each : ∀ i, i < T.length → ∃ ai ci, tv[i]? = some (.slice ai (txt T i).length ci) ∧ Rd W (.slice ai (txt T i).length ci) (txt T i)
  here : (ao = none ∧ T = [] ∧ c = 0) ∨ ∃ a, ao = some a ∧ ∀ i u, tv[i]? = some u → W.cell? (a.add i) = some u

theorem TxAt.keep {W W' : World} {ao : Option Addr} {c : Nat} {tv : List Value} {T : List (List UInt8)} (h : TxAt W ao c tv T) (hb : Below W.heap.size W W') : TxAt W' ao c tv T := by
  refine ⟨h.len, fun i hi => ?_, ?_⟩
  · obtain ⟨ai, ci, h1, h2⟩ := h.each i hi
    exact ⟨ai, ci, h1, h2.keep hb⟩
  · rcases h.here with h0 | ⟨a, h1, h2⟩
    · exact .inl h0
    · refine .inr ⟨a, h1, fun i u hu => ?_⟩
      have h3 := h2 i u hu
      rw [hb.cell (lt_of_cell h3)]; exact h3

/-- text number i, as the walk meets it -/
theorem TxAt.at {W : World} {ao : Option Addr} {c : Nat} {tv : List Value} {T : List (List UInt8)} (h : TxAt W ao c tv T) {i : Nat} (hi : i < T.length) :
    ∃ g off ai ci, ao = some ⟨g, off, none⟩ ∧ W.cell? ⟨g, off + i, none⟩ = some (.slice ai (txt T i).length ci) ∧ Rd W (.slice ai (txt T i).length ci) (txt T i) ∧ tv[i]? = some (.slice ai (txt T i).length ci) := by
  obtain ⟨ai, ci, h1, h2⟩ := h.each i hi
  rcases h.here with ⟨_, h0, _⟩ | ⟨a, h3, h4⟩
  · rw [h0] at hi; simp at hi
  · have h5 := h4 i _ h1
    obtain ⟨a0, c0, e0, _⟩ := h.each 0 (by omega)
    have h6 := h4 0 _ e0
    obtain ⟨g, off, spot⟩ := a
    have hsp := World.cell?_spot h6
    have hsp2 : spot = none := by simpa [Addr.add] using hsp
    subst hsp2
    have hadd : (⟨g, off, none⟩ : Addr).add i = ⟨g, off + i, none⟩ := by unfold Addr.add; split <;> simp_all
    rw [hadd] at h5
    exact ⟨g, off, ai, ci, h3, h5, h2, h1⟩

theorem info22 : (Tryz.prog.info? 22).map (fun i => (i.zero, i.size, i.bytes)) = some (some (.slice none 0 0), 1, 24) := by kernel_rfl
theorem info33 : (Tryz.prog.info? 57).map (fun i => (i.zero, i.size, i.bytes)) = some (some (.agg #[.int .i64 0, .int .i64 0, .int .i64 0]), 3, 24) := by kernel_rfl

/-- 'append(out, xs...)', out the call's own, xs nil or not -/
theorem append_src {w : World} {ops : Array Oper} {rest : List Oper} {o : Oper} {a : Act} {Q : Exit → Act → World → Prop} (hgd : o.guard = none) (s x : Operand) (t : TypeId)
    (ho : o.op = .call { callee := .builtin .append, args := #[s, x], argTypes := #[t, t] })
    (base : Nat) (e : TypeId) (i : TypeInfo) (z : Value) (size bytes : Nat) (ht : Tryz.prog.underlying t = some (.slice e)) (hi : Tryz.prog.info? e = some i) (hz : i.zero = some z)
    (hsize : i.size = size) (hby : i.bytes = bytes) (hzs : z.cells.size = size) (hsz : 0 < size)
    (v : Value) (n : Nat) (xs : List Value) (hs : a.eval s = v) (hown : w.ownsRow base e size v n xs)
    (ao : Option Addr) (m c : Nat) (news : List Value) (hx : a.eval x = .slice ao m c) (hl : news.length = m * size)
    (hnews : (ao = none ∧ m = 0 ∧ c = 0) ∨ ∃ ad, ao = some ad ∧ ∀ j u, news[j]? = some u → w.cell? (ad.add j) = some u) (h1 : ∀ u ∈ news, u.oneCell' = true)
    (h63 : n + m ≤ maxLen) (hbytes : (n + m) * bytes ≤ 140737488355328) (hbase : base ≤ w.heap.size)
    (h : ∀ v' w', w'.ownsRow base e size v' (n + m) (xs ++ news) → w.grownBy w' v.ownBlock → wpList Tryz.prog ops Q rest (a.put o.dst v') w') : wpList Tryz.prog ops Q (o :: rest) a w := by
  rcases hnews with ⟨rfl, rfl, rfl⟩ | ⟨ad, rfl, hnews⟩
  · have hn : news = [] := List.eq_nil_of_length_eq_zero (by omega)
    subst hn
    refine wpList_append_own_none hgd s x t ho base e i size ht hi v n xs hs hown hx (h v w (by simpa using hown) ⟨rfl, rfl, rfl, Nat.le_refl _, fun _ _ _ => rfl⟩)
  · exact wpList_append_own w hgd s x t ho base e i z size bytes ht hi hz hsize hby hzs hsz v n xs hs hown ad m c news hx hl hnews h1 h63 hbytes hbase (fun v' w' h2 h3 _ => h v' w' h2 h3)

theorem BufAt.lower {W : World} {base base' b : Nat} {vo va : Value} {O A : List UInt8} (h : BufAt W base b vo va O A) (hb : base' ≤ base) : BufAt W base' b vo va O A :=
  ⟨Nat.le_trans hb h.lo, h.here, own_lower h.orig hb, own_lower h.added hb, h.apart⟩

/-- a row of other elements than bytes is not touched by Add -/
theorem own_touch {W W' : World} {base base' b e size n : Nat} {v vo va : Value} {xs : List Value} {O A : List UInt8} (h : W.ownsRow base e size v n xs) (hB : BufAt W base' b vo va O A) (ht : Touch W W' b va.ownBlock) (he : e ≠ 5) (he2 : e ≠ 94) : W'.ownsRow base e size v n xs := by
  refine ⟨h.1, ?_⟩
  rcases h.2 with hn | ⟨g, cap, cur, rfl, hb, hgg, rest⟩
  · exact .inl hn
  · refine .inr ⟨g, cap, cur, rfl, hb, ?_, rest⟩
    rw [ht.block g (Array.getElem?_eq_some_iff.1 hgg).1 ?_ ?_]
    · exact hgg
    · intro e1
      subst e1
      rw [hB.here] at hgg
      simp at hgg
      exact he2 hgg.2.symm
    · exact own_ne hB.added hgg he

theorem lit_cells (w : World) (cs : Array Value) (e : TypeId) (j : Nat) (u : Value) (h : cs.toList[j]? = some u) : (w.alloc (.cells cs e)).cell? ((⟨w.heap.size, 0, none⟩ : Addr).add j) = some u := by
  have : (⟨w.heap.size, 0, none⟩ : Addr).add j = ⟨w.heap.size, j, none⟩ := by unfold Addr.add; split <;> simp_all
  rw [this, World.cell?_alloc_mark, ← Array.getElem?_toList]; exact h

theorem own_some {w : World} {base e size n : Nat} {v : Value} {xs : List Value} (h : w.ownsRow base e size v n xs) (hn : 1 ≤ n) : ∃ g cap, v = .slice (some ⟨g, 0, none⟩) n cap ∧ n ≤ cap ∧ cap ≤ maxLen := by
  rcases h.2 with ⟨_, h0⟩ | ⟨g, cap, cur, rfl, _, _, h1, h2, _⟩
  · omega
  · exact ⟨g, cap, rfl, h1, h2⟩

/-- rows of elements of two types are two blocks -/
theorem own_apart {W : World} {base base' e e' size size' n n' : Nat} {v v' : Value} {xs xs' : List Value} (h : W.ownsRow base e size v n xs) (h' : W.ownsRow base' e' size' v' n' xs') (he : e ≠ e') : v.ownBlock = none ∨ v.ownBlock ≠ v'.ownBlock := by
  rcases h.2 with ⟨rfl, _⟩ | ⟨g, cap, cur, rfl, _, hg, _⟩
  · exact .inl rfl
  · refine .inr ?_
    rcases h'.2 with ⟨rfl, _⟩ | ⟨g', cap', cur', rfl, _, hg', _⟩
    · simp [Value.ownBlock]
    · intro e1
      simp [Value.ownBlock] at e1
      subst e1
      rw [hg] at hg'
      simp at hg'
      exact he hg'.2
theorem block_apart {W : World} {base e size n b t : Nat} {v : Value} {xs : List Value} {cs : Array Value} (h : W.ownsRow base e size v n xs) (hb : W.heap[b]? = some (.cells cs t (0, 0))) (he : e ≠ t) : some b ≠ v.ownBlock := by
  rcases h.2 with ⟨rfl, _⟩ | ⟨g, cap, cur, rfl, _, hg, _⟩
  · simp [Value.ownBlock]
  · intro e1
    simp [Value.ownBlock] at e1
    subst e1
    rw [hb] at hg
    simp at hg
    exact he hg.2.symm

theorem own_rdB {w : World} {base n : Nat} {v : Value} {l : List UInt8} (h : w.ownsRow base 5 1 v n (bv l)) : RdB w v l := by
  have hn : l.length = n := by have := h.1; rw [bv_length] at this; omega
  subst hn
  rcases h.2 with ⟨rfl, h0⟩ | ⟨g, cap, cur, rfl, _⟩
  · exact .inl ⟨rfl, List.eq_nil_of_length_eq_zero h0⟩
  · refine .inr ⟨g, 0, cap, rfl, fun j u hu => ?_⟩
    have hj : j < l.length := by have := (List.getElem?_eq_some_iff.1 hu).1; rw [bv_length] at this; exact this
    rw [Nat.zero_add, h.cellAt j (by omega)]; exact hu

theorem bcell {W w1 : World} (hb : Below W.heap.size W w1) : (∀ b o, b < W.heap.size → w1.cell? ⟨b, o, none⟩ = W.cell? ⟨b, o, none⟩) ∧ (∀ b o, b < W.heap.size → w1.frozen? ⟨b, o, none⟩ = W.frozen? ⟨b, o, none⟩) :=
  ⟨fun b o h => hb.cell (p := ⟨b, o, none⟩) h, fun b o h => hb.frozen (p := ⟨b, o, none⟩) h⟩
theorem meetA {w8 w9 : World} (hb : Below w8.drew.heap.size w8.drew w9) (s o l : Int) :
    SpanAt (w9.alloc (.cells #[.int .i64 s, .int .i64 o, .int .i64 l] 57)) w9.heap.size s o l ∧ Below w8.heap.size w8 (w9.alloc (.cells #[.int .i64 s, .int .i64 o, .int .i64 l] 57)) :=
  ⟨SpanAt.new w9 s o l, bAlloc ((Below.refl _ _).drew.trans hb) _⟩
theorem meetB {w8 w9 : World} {a b c : Int} (hb : Below (w8.alloc (.cells #[.int .i64 a, .int .i64 b, .int .i64 c] 57)).drew.heap.size (w8.alloc (.cells #[.int .i64 a, .int .i64 b, .int .i64 c] 57)).drew w9) (s o l : Int) :
    SpanAt (((w9.setCell ⟨w8.heap.size, 0, none⟩ (.int .i64 s)).setCell ⟨w8.heap.size, 1, none⟩ (.int .i64 o)).setCell ⟨w8.heap.size, 2, none⟩ (.int .i64 l)) w8.heap.size s o l ∧
      Below w8.heap.size w8 (((w9.setCell ⟨w8.heap.size, 0, none⟩ (.int .i64 s)).setCell ⟨w8.heap.size, 1, none⟩ (.int .i64 o)).setCell ⟨w8.heap.size, 2, none⟩ (.int .i64 l)) := by
  have h1 := (SpanAt.new w8 a b c).keep ((Below.refl _ _).drew.trans hb)
  have h2 : Below w8.heap.size w8 w9 := ((bAlloc (Below.refl _ _) _).drew).trans (hb.mono (by simp))
  exact ⟨h1.put s o l, ((h2.setCell (p := ⟨w8.heap.size, 0, none⟩) (Nat.le_refl _) _).setCell (p := ⟨w8.heap.size, 1, none⟩) (Nat.le_refl _) _).setCell (p := ⟨w8.heap.size, 2, none⟩) (Nat.le_refl _) _⟩
theorem cell_later' {W W' : World} (hb : Below W.heap.size W W') {a : Addr} {v : Value} (h : W.cell? a = some v) : W'.cell? a = some v := by
  rw [hb.cell (lt_of_cell h)]; exact h
theorem keep6 {W W' : World} (hb : Below W.heap.size W W') {a1 a2 a3 a4 a5 a6 : Addr} {v1 v2 v3 v4 v5 v6 : Value}
    (h : W.cell? a1 = some v1 ∧ W.cell? a2 = some v2 ∧ W.cell? a3 = some v3 ∧ W.cell? a4 = some v4 ∧ W.cell? a5 = some v5 ∧ W.cell? a6 = some v6) :
    W'.cell? a1 = some v1 ∧ W'.cell? a2 = some v2 ∧ W'.cell? a3 = some v3 ∧ W'.cell? a4 = some v4 ∧ W'.cell? a5 = some v5 ∧ W'.cell? a6 = some v6 :=
  ⟨cell_later' hb h.1, cell_later' hb h.2.1, cell_later' hb h.2.2.1, cell_later' hb h.2.2.2.1, cell_later' hb h.2.2.2.2.1, cell_later' hb h.2.2.2.2.2⟩

theorem read_yesI (p : Option Addr) (s : Int) (o l : Nat) (li : Int) (hli : li = (l : Int)) (O A : List UInt8) (base : Nat) (w : World) (hs : sndB s o l = true) (hh : o + l ≤ (which s O A).length) (hbig : l ≤ 140737488355328) (h : Bf w base p O A) :
    Calls Tryz.prog 79 #[.pointer p, .agg #[.int .i64 s, .int .i64 o, .int .i64 li]] w fun e w' => ∃ ao c, e = .returned (.tuple #[.slice ao l c, .int .i64 0]) ∧ w'.ownsRow w.heap.size 5 1 (.slice ao l c) l (bv (cutL s o l O A)) ∧ Below w.heap.size w w' := by
  subst hli
  exact read_yes p s o l O A base w hs hh hbig h
theorem Rd.drewN {W : World} {v : Value} {l : List UInt8} (h : Rd W v l) (n : Nat) : Rd (W.drewN n) v l := h.keep (below_drewN W n)

theorem cat_run (l r : List UInt8) (h : l.length + r.length ≤ 9223372036854775807) (W : World) : (Op.stringOp .add ⟨l.toArray⟩ ⟨r.toArray⟩).run Tryz.prog W = .ok (.string ⟨(l ++ r).toArray⟩) W := by
  rw [run_string_add_sum W _ _ (by simpa [ByteArray.size] using h), ByteArray.mk_append_mk]

/-- list number j of all, as the walk meets it -/
theorem all_at {W : World} {a0 ao : Option Addr} {c0 c1 : Nat} {O : List UInt8} {tv : List Value} {T : List (List UInt8)} (hO : Rd W (.slice a0 O.length c0) O) (hT : TxAt W ao c1 tv T) {j : Nat} (hj : j < T.length + 1) :
    ∃ aj cj, (Value.slice a0 O.length c0 :: tv)[j]? = some (.slice aj (spL O T j) cj) ∧ Rd W (.slice aj (spL O T j) cj) (allT O T j) := by
  cases j with
  | zero => exact ⟨a0, c0, by simp [spL, allT_zero], by simpa [spL, allT_zero] using hO⟩
  | succ k =>
    obtain ⟨ai, ci, h1, h2⟩ := hT.each k (by omega)
    refine ⟨ai, ci, ?_, ?_⟩
    · rw [List.getElem?_cons_succ, h1]; simp [spL, allT_succ]
    · simpa [spL, allT_succ] using h2
theorem spL_le (O : List UInt8) (T : List (List UInt8)) (j : Nat) (h : j < T.length + 1) (hO : O.length ≤ 140737488351232) (hF : (flat T T.length).length ≤ 1048576) : spL O T j ≤ 140737488351232 := by
  cases j with
  | zero => simpa [spL, allT_zero] using hO
  | succ k => have := flat_le T k (by omega); simp only [spL, allT_succ]; omega

/-- One round of the law's second loop: what Add and the append of its span leave. -/
theorem stays_round {w wr w4 w5 : World} {b : Nat} {vo va va' vs vs' vl : Value} {O : List UInt8} {T : List (List UInt8)} {j n : Nat} {ls : List Value} {x : Obj} (hj : j < T.length)
    (hS : wr.ownsRow w.heap.size 57 3 vs (j + 1) (spCells O T (j + 1))) (hB : BufAt wr w.heap.size b vo va O (flat T j)) (hA : wr.ownsRow w.heap.size 22 1 vl n ls) (hL : Below w.heap.size w wr)
    (hB4 : BufAt w4 w.heap.size b vo va' O (flat T j ++ txt T j)) (ht : Touch wr w4 b va.ownBlock)
    (hgrow : (w4.alloc x).grownBy w5 vs.ownBlock)
    (hown : w5.ownsRow w.heap.size 57 3 vs' (j + 1 + 1) (spCells O T (j + 1) ++ [.int .i64 1, .int .i64 ((flat T j).length : Int), .int .i64 ((txt T j).length : Int)])) :
    w5.ownsRow w.heap.size 57 3 vs' (j + 1 + 1) (spCells O T (j + 1 + 1)) ∧ BufAt w5 w.heap.size b vo va' O (flat T (j + 1)) ∧ w5.ownsRow w.heap.size 22 1 vl n ls ∧ Below w.heap.size w w5 := by
  have hS4 := own_touch hS hB ht (by decide) (by decide)
  have hA4 := own_touch hA hB ht (by decide) (by decide)
  have hL4 : Below w.heap.size w w4 := touch_below hL ht hL.size hB.lo (fun k hk => (hB.added.lt k hk).1)
  refine ⟨?_, ?_, ?_, ?_⟩
  · rw [spCells_succ O T (j + 1)]
    have e1 : spS (j + 1) = 1 := sp_one j
    have e2 : spO T (j + 1) = (flat T j).length := rfl
    have e3 : spL O T (j + 1) = (txt T j).length := by unfold spL; rw [allT_succ]
    rw [e1, e2, e3]
    exact hown
  · rw [flat_succ T j hj]
    exact (hB4.alloc x).grown hgrow (block_apart (hS4.alloc x) (hB4.alloc x).here (by decide)) (own_apart (hB4.alloc x).orig (hS4.alloc x) (by decide)) (own_apart (hB4.alloc x).added (hS4.alloc x) (by decide))
  · exact (hA4.alloc x).kept hgrow (own_apart (hA4.alloc x) (hS4.alloc x) (by decide))
  · exact (bAlloc hL4 x).grown hgrow (by have := hL4.size; simp; omega) (fun k hk => (hS4.lt k hk).1)
end Go.Proofs.YtmhpeppbhjpkiaaGreat.Ab

