/- What the walk of quoinlaw03.SpliceKeeps leans on. -/
import Derived.Test.YtjjgloioppjcaaaRws
import Derived.Test.YtjjgloioppjcaaaCutsWalk
import Derived.Test.YtjjgloioppjcaaaRefIns
import Derived.Test.YtjjgloioppjcaaaUpto
namespace Go.Proofs.Ytjjgloioppjcaaa
open Go.ChangeShapes Go.WideShapes Go.ChangeAt Go.RowKit Go.Deep

theorem info22 : (Try.prog.info? 22).map (fun i => (i.zero, i.size, i.bytes)) = some (some (.slice none 0 0), 1, 24) := by kernel_rfl

/-- a row of spans, a row of lists -/
def sprow (x : Value × List Sp) : Rw := ⟨39, 3, x.1, x.2.length, cells x.2⟩
def vrow (v : Value) (D : List (Value × List Sp)) : Rw := ⟨22, 1, v, D.length, D.map (·.1)⟩

theorem cells_one (L : List Sp) : ∀ u ∈ cells L, u.oneCell' = true := by
  intro u hu
  obtain ⟨p, _, hp⟩ := List.mem_flatMap.1 hu
  simp [Sp.cs] at hp
  rcases hp with rfl | rfl | rfl <;> rfl
theorem row_srv {w : World} {b off : Nat} {L : List Sp} (h : Row w b off L) (j : Nat) (t : Value) (hj : (cells L)[j]? = some t) : w.cell? ((⟨b, off, none⟩ : Addr).add j) = some t := by
  have hlt := (List.getElem?_eq_some_iff.1 hj).1
  rw [cells_length] at hlt
  have hadd : (⟨b, off, none⟩ : Addr).add j = ⟨b, off + j, none⟩ := by unfold Addr.add; split <;> simp_all
  rw [hadd]
  have hk : j / 3 < L.length := by omega
  have hq : L[j / 3]? = some L[j / 3] := List.getElem?_eq_getElem hk
  obtain ⟨h0, h1, h2⟩ := h (j / 3) _ hq
  have h3 : j % 3 = 0 ∨ j % 3 = 1 ∨ j % 3 = 2 := by omega
  rcases h3 with e | e | e
  · have e2 : j = j / 3 * 3 + 0 := by omega
    have := cells_at hq 0 (by omega)
    rw [← e2, hj] at this
    simp [Sp.cs] at this
    rw [this, ← h0]; congr 2; omega
  · have e2 : j = j / 3 * 3 + 1 := by omega
    have := cells_at hq 1 (by omega)
    rw [← e2, hj] at this
    simp [Sp.cs] at this
    rw [this, ← h1]; congr 2; omega
  · have e2 : j = j / 3 * 3 + 2 := by omega
    have := cells_at hq 2 (by omega)
    rw [← e2, hj] at this
    simp [Sp.cs] at this
    rw [this, ← h2]; congr 2; omega
theorem rdb_srv {w : World} {v : Value} {L : List Sp} (h : Rdb w v L) (hn : ∀ n c, v = .slice none n c → c = 0) : Srv w v L.length (cells L) := by
  obtain ⟨ao, n, c, rfl, rfl, hc, h4⟩ := h
  rcases ao with _ | ad
  · have := hn _ _ rfl
    subst this
    have e : L = [] := List.eq_nil_of_length_eq_zero (by omega)
    subst e
    exact .inl ⟨rfl, rfl, rfl⟩
  · refine .inr ⟨ad, c, rfl, fun j t hj => ?_⟩
    rcases h4 with h4 | ⟨b, off, e, hr⟩
    · subst h4; simp [cells] at hj
    · injection e with e; subst e
      exact row_srv hr j t hj
theorem cells_zero (L : List Sp) : cells L = [] ↔ L = [] := by
  constructor
  · intro h
    have := cells_length L
    rw [h] at this
    exact List.eq_nil_of_length_eq_zero (by simp at this; omega)
  · rintro rfl; rfl
theorem room_rdb {w : World} {base e g n c : Nat} {L M : List Sp} (h : w.ownsRow base e 3 (.slice (some ⟨g, 0, none⟩) n c) n (cells (L ++ M))) : Rdb w (.slice (some ⟨g, 0, none⟩) L.length c) L := by
  have hl : n = L.length + M.length := by have := h.1; rw [cells_length, List.length_append] at this; omega
  have hc : n ≤ c := by
    rcases h.2 with ⟨h0, _⟩ | ⟨g', c', cur, e1, _, _, h3, _⟩
    · cases h0
    · simp at e1; omega
  refine ⟨_, _, _, rfl, rfl, by omega, .inr ⟨g, 0, rfl, fun j p hj => ?_⟩⟩
  have hlt := (List.getElem?_eq_some_iff.1 hj).1
  have hj' : (L ++ M)[j]? = some p := by rw [List.getElem?_append_left hlt]; exact hj
  have c := fun i (hi : i < 3) => (h.cellAt (j * 3 + i) (by omega)).trans (cells_at hj' i hi)
  rw [Nat.zero_add]
  exact ⟨by simpa [Sp.cs] using c 0 (by omega), by simpa [Sp.cs] using c 1 (by omega), by simpa [Sp.cs] using c 2 (by omega)⟩
theorem cells_set (L : List Sp) (j : Nat) (p : Sp) (hj : j < L.length) : (((cells L).set (j * 3) (.int .i64 p.s)).set (j * 3 + 1) (.int .i64 p.o)).set (j * 3 + 2) (.int .i64 p.l) = cells (L.set j p) := by
  induction L generalizing j with
  | nil => simp at hj
  | cons q L ih =>
    have e : ∀ (q : Sp) (L : List Sp), cells (q :: L) = .int .i64 q.s :: .int .i64 q.o :: .int .i64 q.l :: cells L := fun q L => by simp [cells, Sp.cs]
    cases j with
    | zero =>
      rw [e]
      show _ = cells (p :: L)
      rw [e]; rfl
    | succ j =>
      rw [List.set_cons_succ, e, e, ← ih j (by simpa using hj)]
      have e1 : (j + 1) * 3 = j * 3 + 1 + 1 + 1 := by omega
      rw [e1]
      simp only [List.set_cons_succ]

section
variable {H : Type} {enc : TypeId × Value → H} {W : World}
set_option maxRecDepth 100000 in
theorem open_none {v : Value} {d : DataW H} {p : List MemPlace} (h : DataW.Trod enc Try.prog W 0 (fun _ => true) true 22 v d p) : ∀ n c, v = .slice none n c → c = 0 := by
  rintro n c rfl
  obtain ⟨fuel, hf⟩ := h
  rcases open_slice Try.underlying22 hf with ⟨hcs, _⟩ | ⟨x, l', c', m, n', D, Pl, hcs, _⟩
  · simp [Value.cells] at hcs
    exact hcs.2
  · simp [Value.cells] at hcs
end
def marks : List Sp := [⟨77, 0, 0⟩, ⟨78, 0, 0⟩]
/-- the law's state: the room, the list of lists, the list of what is wanted, and all of them -/
def St (room : Rw) (x y : Value) (D E : List (Value × List Sp)) : List Rw := room :: vrow x D :: vrow y E :: (D ++ E).map sprow
def rooms (g c : Nat) (L : List Sp) : Rw := sprow (.slice (some ⟨g, 0, none⟩) (L.length + 2) c, L ++ marks)
theorem in_rdb {w W : World} {g c : Nat} {L : List Sp} {R : List Rw} (h : Rws w W (rooms g c L :: R)) : Rdb W (.slice (some ⟨g, 0, none⟩) L.length c) L := by
  have h1 := h.own 0 _ rfl
  have e : (L ++ marks).length = L.length + 2 := by simp [marks]
  unfold rooms sprow at h1
  dsimp only at h1
  rw [e] at h1
  exact room_rdb h1
theorem St.snoc (room : Rw) (x y : Value) (D : List (Value × List Sp)) (p : Value × List Sp) : St room x y D [] ++ [sprow p] = room :: vrow x D :: vrow y [] :: (D ++ [p]).map sprow := by simp [St]
theorem St.at3 (room : Rw) (x y : Value) (D E : List (Value × List Sp)) (k : Nat) : (St room x y D E)[3 + k]? = ((D ++ E)[k]?).map sprow := by
  have e : 3 + k = k + 1 + 1 + 1 := by omega
  rw [e, St, List.getElem?_cons_succ, List.getElem?_cons_succ, List.getElem?_cons_succ, List.getElem?_map]
theorem Rws.ownD {w W : World} {room : Rw} {x y : Value} {D E : List (Value × List Sp)} {k : Nat} {X : Value} {Z : List Sp} (h : Rws w W (St room x y D E)) (hk : D[k]? = some (X, Z)) : W.ownsRow w.heap.size 39 3 X Z.length (cells Z) :=
  h.own (3 + k) (sprow (X, Z)) (by rw [St.at3, List.getElem?_append_left (List.getElem?_eq_some_iff.1 hk).1, hk]; rfl)
theorem Rws.ownE {w W : World} {room : Rw} {x y : Value} {D E : List (Value × List Sp)} {k : Nat} {X : Value} {Z : List Sp} (h : Rws w W (St room x y D E)) (hD : D.length = 12) (hk : E[k]? = some (X, Z)) : W.ownsRow w.heap.size 39 3 X Z.length (cells Z) :=
  h.own (3 + (12 + k)) (sprow (X, Z)) (by rw [St.at3, List.getElem?_append_right (by omega), hD, Nat.add_sub_cancel_left, hk]; rfl)
theorem Rws.cellD {w W : World} {room : Rw} {g c : Nat} {y : Value} {D E : List (Value × List Sp)} {k : Nat} {X : Value} {Z : List Sp} (h : Rws w W (St room (.slice (some ⟨g, 0, none⟩) 12 c) y D E)) (hD : D.length = 12) (hk : D[k]? = some (X, Z)) : W.cell? ⟨g, k, none⟩ = some X := by
  have h1 := h.own 1 _ rfl
  unfold vrow at h1
  dsimp only at h1
  rw [hD] at h1
  have := (List.getElem?_eq_some_iff.1 hk).1
  rw [h1.cellAt k (by omega), List.getElem?_map, hk]; rfl
theorem Rws.cellE {w W : World} {room : Rw} {g c : Nat} {x : Value} {D E : List (Value × List Sp)} {k : Nat} {X : Value} {Z : List Sp} (h : Rws w W (St room x (.slice (some ⟨g, 0, none⟩) 12 c) D E)) (hE : E.length = 12) (hk : E[k]? = some (X, Z)) : W.cell? ⟨g, k, none⟩ = some X := by
  have h1 := h.own 2 _ rfl
  unfold vrow at h1
  dsimp only at h1
  rw [hE] at h1
  have := (List.getElem?_eq_some_iff.1 hk).1
  rw [h1.cellAt k (by omega), List.getElem?_map, hk]; rfl
theorem pair_at {E : List (Value × List Sp)} {S : List (List Sp)} {k : Nat} (h : E.map (·.2) = S ++ S) (hk : k < S.length) : ∃ X1 X2 Z, E[k]? = some (X1, Z) ∧ E[k + S.length]? = some (X2, Z) := by
  have h1 : (E.map (·.2))[k]? = some S[k] := by rw [h, List.getElem?_append_left hk]; exact List.getElem?_eq_getElem hk
  have h2 : (E.map (·.2))[k + S.length]? = some S[k] := by rw [h, List.getElem?_append_right (by omega), Nat.add_sub_cancel]; exact List.getElem?_eq_getElem hk
  rw [List.getElem?_map, Option.map_eq_some_iff] at h1 h2
  obtain ⟨⟨X1, Z1⟩, g1, e1⟩ := h1
  obtain ⟨⟨X2, Z2⟩, g2, e2⟩ := h2
  dsimp only at e1 e2
  exact ⟨X1, X2, S[k], by rw [g1, ← e1], by rw [g2, ← e2]⟩
theorem room_marks {w W : World} {g c : Nat} {L : List Sp} {R : List Rw} (h : Rws w W (rooms g c L :: R)) : W.cell? ⟨g, L.length * 3, none⟩ = some (.int .i64 77) ∧ W.cell? ⟨g, (L.length + 1) * 3, none⟩ = some (.int .i64 78) := by
  have h1 := h.own 0 _ rfl
  have e : (L ++ marks).length = L.length + 2 := by simp [marks]
  unfold rooms sprow at h1
  dsimp only at h1
  rw [e] at h1
  have a1 : (L ++ marks)[L.length]? = some ⟨77, 0, 0⟩ := by rw [List.getElem?_append_right (Nat.le_refl _), Nat.sub_self]; rfl
  have a2 : (L ++ marks)[L.length + 1]? = some ⟨78, 0, 0⟩ := by rw [List.getElem?_append_right (by omega), Nat.add_sub_cancel_left]; rfl
  have b1 := cells_at a1 0 (by omega)
  have b2 := cells_at a2 0 (by omega)
  rw [Nat.add_zero] at b1 b2
  exact ⟨(h1.cellAt _ (by omega)).trans b1, (h1.cellAt _ (by omega)).trans b2⟩
theorem rooms_eq {w W : World} {g c : Nat} {L : List Sp} {x y : Value} {D E : List (Value × List Sp)} (h : Rws w W (St (rooms g c L) x y D E)) : Rws w W (St ⟨39, 3, .slice (some ⟨g, 0, none⟩) (L.length + 2) c, L.length + 2, cells (L ++ marks)⟩ x y D E) := by
  have e : rooms g c L = ⟨39, 3, .slice (some ⟨g, 0, none⟩) (L.length + 2) c, L.length + 2, cells (L ++ marks)⟩ := by simp [rooms, sprow, marks]
  rw [← e]; exact h
/-- the mark of the k-th list -/
def mrk (k : Nat) : Sp := ⟨100 + k, 0, 0⟩
/-- the first k lists are marked -/
def mark (k : Nat) (D : List (Value × List Sp)) : List (Value × List Sp) := D.mapIdx fun q x => if q < k then (x.1, List.replicate x.2.length (mrk q)) else x
theorem mark_len (k : Nat) (D : List (Value × List Sp)) : (mark k D).length = D.length := by simp [mark]
theorem mark_zero (D : List (Value × List Sp)) : mark 0 D = D := by
  apply List.ext_getElem?
  intro q
  rw [mark, List.getElem?_mapIdx]
  cases D[q]? <;> simp
theorem mark_old {k q : Nat} {D : List (Value × List Sp)} {x : Value × List Sp} (h : D[q]? = some x) (hq : ¬ q < k) : (mark k D)[q]? = some x := by
  rw [mark, List.getElem?_mapIdx, h]; simp [hq]
theorem mark_new {k q : Nat} {D : List (Value × List Sp)} {X : Value} {Z : List Sp} (h : D[q]? = some (X, Z)) (hq : q < k) : (mark k D)[q]? = some (X, List.replicate Z.length (mrk q)) := by
  rw [mark, List.getElem?_mapIdx, h]; simp [hq]
theorem mark_succ {k : Nat} {D : List (Value × List Sp)} {X : Value} {Z : List Sp} (h : D[k]? = some (X, Z)) : (mark k D).set k (X, List.replicate Z.length (mrk k)) = mark (k + 1) D := by
  apply List.ext_getElem?
  intro q
  have hlt := (List.getElem?_eq_some_iff.1 h).1
  rw [List.getElem?_set]
  by_cases e : k = q
  · subst e
    rw [if_pos rfl, if_pos (by rw [mark_len]; exact hlt), mark_new h (by omega)]
  · rw [if_neg e]
    rcases hD : D[q]? with _ | ⟨X', Z'⟩
    · rw [mark, mark, List.getElem?_mapIdx, List.getElem?_mapIdx, hD]; rfl
    · by_cases hq : q < k
      · rw [mark_new hD hq, mark_new hD (by omega)]
      · rw [mark_old hD hq, mark_old hD (by omega)]
theorem set_self {D : List (Value × List Sp)} {k : Nat} {x : Value × List Sp} (h : D[k]? = some x) : D.set k x = D := by
  obtain ⟨h1, h2⟩ := List.getElem?_eq_some_iff.1 h
  rw [← h2, List.set_getElem_self]
/-- one list of the state has other spans -/
theorem St.set3 {room : Rw} {x y : Value} {D E : List (Value × List Sp)} {k : Nat} {X : Value} {Z Z' : List Sp} (h : D[k]? = some (X, Z)) : (St room x y D E).set (3 + k) (sprow (X, Z')) = St room x y (D.set k (X, Z')) E := by
  obtain ⟨h1, h2⟩ := List.getElem?_eq_some_iff.1 h
  have e : 3 + k = k + 1 + 1 + 1 := by omega
  have ev : vrow x (D.set k (X, Z')) = vrow x D := by
    unfold vrow
    have : (D.set k (X, Z')).map (·.1) = D.map (·.1) := by
      rw [List.map_set]
      apply List.ext_getElem?
      intro q
      rw [List.getElem?_set]
      by_cases e : k = q
      · subst e
        rw [if_pos rfl, List.getElem?_map, h]
        simp [h1]
      · rw [if_neg e]
    rw [this, List.length_set]
  rw [e]
  unfold St
  rw [List.set_cons_succ, List.set_cons_succ, List.set_cons_succ, ev, ← List.map_set, List.set_append_left _ _ h1]
theorem Rws.mark3 {w W : World} {room : Rw} {x y : Value} {D E : List (Value × List Sp)} {k g c n : Nat} {Z : List Sp} {p : Sp} {j : Nat} (h : Rws w W (St room x y D E)) (hk : D[k]? = some (.slice (some ⟨g, 0, none⟩) n c, Z)) (hn : Z.length = n) (hj : j < n) :
    Rws w (((W.setCell ⟨g, j * 3, none⟩ (.int .i64 p.s)).setCell ⟨g, j * 3 + 1, none⟩ (.int .i64 p.o)).setCell ⟨g, j * 3 + 2, none⟩ (.int .i64 p.l)) (St room x y (D.set k (.slice (some ⟨g, 0, none⟩) n c, Z.set j p)) E) := by
  have h1 : (St room x y D E)[3 + k]? = some ⟨39, 3, .slice (some ⟨g, 0, none⟩) n c, n, cells Z⟩ := by rw [St.at3, List.getElem?_append_left (List.getElem?_eq_some_iff.1 hk).1, hk, ← hn]; rfl
  have h2 := h.store3 h1 (j * 3) (.int .i64 p.s) (.int .i64 p.o) (.int .i64 p.l)
  rw [cells_set Z j p (by omega)] at h2
  rw [← St.set3 hk]
  unfold sprow
  rw [List.length_set, hn]
  exact h2
theorem rep_set (Z : List Sp) (j : Nat) (p : Sp) (hj : j < Z.length) : (List.replicate j p ++ Z.drop j).set j p = List.replicate (j + 1) p ++ Z.drop (j + 1) := by
  rw [List.set_append_right _ _ (by simp), List.length_replicate, Nat.sub_self, List.drop_eq_getElem_cons hj, List.set_cons_zero, List.replicate_succ', List.append_assoc]; rfl
theorem same_snd {D E : List (Value × List Sp)} (h : D.map (·.2) = E.map (·.2)) {k : Nat} {X : Value} {Z : List Sp} (hk : D[k]? = some (X, Z)) : ∃ Y, E[k]? = some (Y, Z) := by
  have h1 : (E.map (·.2))[k]? = some Z := by rw [← h, List.getElem?_map, hk]; rfl
  rw [List.getElem?_map, Option.map_eq_some_iff] at h1
  obtain ⟨⟨Y, Z'⟩, g1, e1⟩ := h1
  dsimp only at e1
  subst e1
  exact ⟨Y, g1⟩
theorem own_some' {w : World} {base e s n : Nat} {v : Value} {xs : List Value} (h : w.ownsRow base e s v n xs) (hn : 0 < n) : ∃ g cap, v = .slice (some ⟨g, 0, none⟩) n cap ∧ n ≤ cap ∧ cap ≤ maxLen := by
  rcases h.2 with ⟨_, h0⟩ | ⟨g, cap, cur, rfl, _, _, h1, h2, _⟩
  · omega
  · exact ⟨g, cap, rfl, h1, h2⟩
theorem at_first {E : List (Value × List Sp)} {A1 A2 A3 A4 A5 A6 : List Sp} {T : List (List Sp)} (h : E.map (·.2) = [A1, A2, A3, A4, A5, A6] ++ T) : (∃ Y, E[0]? = some (Y, A1)) ∧ ∃ Y, E[3]? = some (Y, A4) := by
  have h0 : (E.map (·.2))[0]? = some A1 := by rw [h]; rfl
  have h3 : (E.map (·.2))[3]? = some A4 := by rw [h]; rfl
  rw [List.getElem?_map, Option.map_eq_some_iff] at h0 h3
  obtain ⟨⟨Y, Z⟩, g, e⟩ := h0
  obtain ⟨⟨Y', Z'⟩, g', e'⟩ := h3
  dsimp only at e e'
  subst e e'
  exact ⟨⟨Y, g⟩, ⟨Y', g'⟩⟩
end Go.Proofs.Ytjjgloioppjcaaa
