/- How marks, a change to be added and, in the second form, histories lie in memory. -/
import Derived.Test.YtaahklapoppgaaaQm38
import Derived.Test.YtaahklapoppgaaaQo03
namespace Go.Proofs.Ytaahklapoppgaaa
open Go.ChangeShapes Go.WideShapes Go.ChangeAt Go.RowKit Go.Joins Go.Deep

theorem cells43 : Try.prog.cellsOf 43 = 56 := by kernel_rfl
section
variable {H : Type} {enc : TypeId × Value → H} {W : World}
set_option maxRecDepth 100000 in
theorem open_marks {r : Reach} {b0 : Nat} {v : Value} {d : DataW H} {p : List MemPlace} (hval : Value.okWide Try.prog W r b0 41 v) (h : DataW.Trod enc Try.prog W 0 (fun _ => true) true 41 v d p) : ∃ L : List Int, v = .agg (mk L) ∧ Mw L := by
  obtain ⟨cs, rfl, -⟩ := okWide_struct Try.underlying41 hval
  obtain ⟨cs⟩ := cs
  obtain ⟨fuel, hf⟩ := h
  obtain ⟨L, hL, e⟩ := open_marks0 hf
  have e2 : cs = ml L := e
  subst e2
  exact ⟨L, rfl, hL⟩
theorem four {cs : List Value} {v2 : Value} {z : Int} {A M : List Int} (hl : cs.length = 56) (e0 : cs.take 1 = [v2]) (e1 : (cs.drop 1).take 1 = [.int .i64 z]) (e2 : (cs.drop 2).take 27 = ml A) (e3 : (cs.drop 29).take 27 = ml M) : cs = ad v2 z A M := by
  have s : cs = cs.take 1 ++ ((cs.drop 1).take 1 ++ ((cs.drop 2).take 27 ++ (cs.drop 29).take 27)) := by
    rw [List.take_of_length_le (l := cs.drop 29) (by simp; omega)]
    conv => lhs; rw [← List.take_append_drop 1 cs, ← List.take_append_drop 1 (cs.drop 1), List.drop_drop, ← List.take_append_drop 27 (cs.drop 2), List.drop_drop]
  rw [e0, e1, e2, e3] at s
  rw [s]
  simp [ad]
set_option maxRecDepth 100000 in
set_option maxHeartbeats 2000000 in
theorem open_add {r : Reach} {b0 : Nat} {v : Value} {d : DataW H} {p : List MemPlace} (hval : Value.okWide Try.prog W r b0 43 v) (h : DataW.Trod enc Try.prog W 0 (fun _ => true) true 43 v d p) (hsz : ∀ n ∈ d.weights Try.prog 43, n ≤ reachBytes) :
    ∃ ea en ec E cur was made, v = .agg (ada (.slice ea en ec) cur was made) ∧ ∀ now, Nz W ⟨now, 0, ea, en, ec, E, cur, was, made⟩ := by
  obtain ⟨cs, rfl, -⟩ := okWide_struct Try.underlying43 hval
  obtain ⟨cs⟩ := cs
  obtain ⟨fuel, hf⟩ := h
  obtain ⟨xs, n, -, hx, hl, hxl, hfl⟩ := DataW.trod_struct Try.underlying43 hf
  rw [cells43] at hl
  have hl' : cs.length = 56 := hl
  match xs, hxl with
  | [y0, y1, y2, y3], _ =>
    have g0 : DataW.trod enc Try.prog W 0 (fun _ => true) true n 38 (cs.take 1) = some y0 := by simpa [Value.cells, cellsS38] using hfl 0 _ rfl
    have g1 : DataW.trod enc Try.prog W 0 (fun _ => true) true n 3 ((cs.drop 1).take 1) = some y1 := by simpa [Value.cells, cells3] using hfl 1 _ rfl
    have g2 : DataW.trod enc Try.prog W 0 (fun _ => true) true n 41 ((cs.drop 2).take 27) = some y2 := by simpa [Value.cells, cells41] using hfl 2 _ rfl
    have g3 : DataW.trod enc Try.prog W 0 (fun _ => true) true n 41 ((cs.drop 29).take 27) = some y3 := by simpa [Value.cells, cells41] using hfl 3 _ rfl
    have e9 : d = .agg ([y0, y1, y2, y3].map (·.1)) := by have := congrArg Prod.fst hx; simpa using this
    have hw : ∀ m ∈ y0.1.weights Try.prog 38, m ≤ reachBytes := fun m hm => hsz m (by
      rw [e9]
      simp only [DataW.weights, Try.underlying43]
      exact DataW.weights_mem_each (j := 0) (t := 38) (d := y0.1) rfl rfl m hm)
    obtain ⟨z, e1, -, -⟩ := DataW.trod_int Try.underlying3 g1
    obtain ⟨was, hw1, e2⟩ := open_marks0 g2
    obtain ⟨made, hm1, e3⟩ := open_marks0 g3
    obtain ⟨v2, e0⟩ : ∃ v, cs.take 1 = [v] := List.length_eq_one_iff.1 (by simp; omega)
    rw [e0] at g0
    obtain ⟨ea, en, ec, E, rfl, hE, hE1, hE2, hE3, hE4⟩ := open_edits0 g0 hw
    have e := four hl' e0 e1 e2 e3
    subst e
    exact ⟨ea, en, ec, E, z, was, made, rfl, fun now => ⟨hE, hE1, hE2, hE3, by dsimp only; omega, hw1, hm1⟩⟩
set_option maxRecDepth 100000 in
set_option maxHeartbeats 2000000 in
theorem open_addU {r : Reach} {b0 : Nat} {v : Value} {d : DataW H} {p : List MemPlace} (hval : Value.okWide Try.prog W r b0 43 v) (h : DataW.Trod enc Try.prog W 0 (fun _ => true) true 43 v d p) (hk : Rows.uptoBulk d ≤ 1048576) :
    ∃ ea en ec E cur was made, v = .agg (ada (.slice ea en ec) cur was made) ∧ (∀ now, Nz W ⟨now, 0, ea, en, ec, E, cur, was, made⟩) ∧ nsum (E.map Er.d) + osum (E.map Er.d) + en + 1 ≤ Rows.uptoBulk d := by
  obtain ⟨cs, rfl, -⟩ := okWide_struct Try.underlying43 hval
  obtain ⟨cs⟩ := cs
  obtain ⟨fuel, hf⟩ := h
  obtain ⟨xs, n, -, hx, hl, hxl, hfl⟩ := DataW.trod_struct Try.underlying43 hf
  rw [cells43] at hl
  have hl' : cs.length = 56 := hl
  match xs, hxl with
  | [y0, y1, y2, y3], _ =>
    have g0 : DataW.trod enc Try.prog W 0 (fun _ => true) true n 38 (cs.take 1) = some y0 := by simpa [Value.cells, cellsS38] using hfl 0 _ rfl
    have g1 : DataW.trod enc Try.prog W 0 (fun _ => true) true n 3 ((cs.drop 1).take 1) = some y1 := by simpa [Value.cells, cells3] using hfl 1 _ rfl
    have g2 : DataW.trod enc Try.prog W 0 (fun _ => true) true n 41 ((cs.drop 2).take 27) = some y2 := by simpa [Value.cells, cells41] using hfl 2 _ rfl
    have g3 : DataW.trod enc Try.prog W 0 (fun _ => true) true n 41 ((cs.drop 29).take 27) = some y3 := by simpa [Value.cells, cells41] using hfl 3 _ rfl
    have e9 : d = .agg ([y0, y1, y2, y3].map (·.1)) := by have := congrArg Prod.fst hx; simpa using this
    have hbk : Rows.uptoBulk d = Rows.uptoBulk y0.1 + (Rows.uptoBulk y1.1 + (Rows.uptoBulk y2.1 + (Rows.uptoBulk y3.1 + 0))) + 1 := by rw [e9]; rfl
    obtain ⟨z, e1, -, -⟩ := DataW.trod_int Try.underlying3 g1
    obtain ⟨was, hw1, e2⟩ := open_marks0 g2
    obtain ⟨made, hm1, e3⟩ := open_marks0 g3
    obtain ⟨v2, e0⟩ : ∃ v, cs.take 1 = [v] := List.length_eq_one_iff.1 (by simp; omega)
    rw [e0] at g0
    obtain ⟨ea, en, ec, E, rfl, hE, hE1, hE2, hE3, hE4⟩ := open_edits0U g0 (by omega)
    have e := four hl' e0 e1 e2 e3
    subst e
    exact ⟨ea, en, ec, E, z, was, made, rfl, (fun now => ⟨hE, hE1, hE2, hE3, by dsimp only; omega, hw1, hm1⟩), by omega⟩
set_option maxRecDepth 100000 in
set_option maxHeartbeats 2000000 in
/-- one change -/
theorem open_nodeU {fuel : Nat} {cs : List Value} {x : DataW H × List MemPlace} (h : DataW.trod enc Try.prog W 0 (fun _ => true) true fuel 63 cs = some x) (hk : Rows.uptoBulk x.1 ≤ 1048576) :
    ∃ r : Nr, cs = r.cs ∧ Nz W r ∧ nsum (r.E.map Er.d) + osum (r.E.map Er.d) + r.E.length ≤ 1048576 := by
  obtain ⟨xs, n, -, hx, hl, hxl, hf⟩ := DataW.trod_struct Try.underlying63 h
  rw [cells63] at hl
  match xs, hxl with
  | [y0, y1, y2, y3, y4, y5], _ =>
    have g0 : DataW.trod enc Try.prog W 0 (fun _ => true) true n 3 (cs.take 1) = some y0 := by simpa [cells3] using hf 0 _ rfl
    have g1 : DataW.trod enc Try.prog W 0 (fun _ => true) true n 3 ((cs.drop 1).take 1) = some y1 := by simpa [cells3] using hf 1 _ rfl
    have g2 : DataW.trod enc Try.prog W 0 (fun _ => true) true n 38 ((cs.drop 2).take 1) = some y2 := by simpa [cellsS38] using hf 2 _ rfl
    have g3 : DataW.trod enc Try.prog W 0 (fun _ => true) true n 3 ((cs.drop 3).take 1) = some y3 := by simpa [cells3] using hf 3 _ rfl
    have g4 : DataW.trod enc Try.prog W 0 (fun _ => true) true n 41 ((cs.drop 4).take 27) = some y4 := by simpa [cells41] using hf 4 _ rfl
    have g5 : DataW.trod enc Try.prog W 0 (fun _ => true) true n 41 ((cs.drop 31).take 27) = some y5 := by simpa [cells41] using hf 5 _ rfl
    have e9 : x.1 = .agg ([y0, y1, y2, y3, y4, y5].map (·.1)) := by have := congrArg Prod.fst hx; simpa using this
    have hbk : Rows.uptoBulk x.1 = Rows.uptoBulk y0.1 + (Rows.uptoBulk y1.1 + (Rows.uptoBulk y2.1 + (Rows.uptoBulk y3.1 + (Rows.uptoBulk y4.1 + (Rows.uptoBulk y5.1 + 0))))) + 1 := by rw [e9]; rfl
    obtain ⟨par, e0, -, -⟩ := DataW.trod_int Try.underlying3 g0
    obtain ⟨nxt, e1, -, -⟩ := DataW.trod_int Try.underlying3 g1
    obtain ⟨cur, e3, -, -⟩ := DataW.trod_int Try.underlying3 g3
    obtain ⟨was, hw1, e4⟩ := open_marks0 g4
    obtain ⟨made, hm1, e5⟩ := open_marks0 g5
    obtain ⟨v2, e2⟩ : ∃ v, (cs.drop 2).take 1 = [v] := by
      have : ((cs.drop 2).take 1).length = 1 := by simp; omega
      exact List.length_eq_one_iff.1 this
    rw [e2] at g2
    obtain ⟨ea, en, ec, E, rfl, hE, hE1, hE2, hE3, hE4⟩ := open_edits0U g2 (by omega)
    refine ⟨⟨par, nxt, ea, en, ec, E, cur, was, made⟩, ?_, ⟨hE, hE1, hE2, hE3, by dsimp only; omega, hw1, hm1⟩, by dsimp only; omega⟩
    have s : cs = cs.take 1 ++ ((cs.drop 1).take 1 ++ ((cs.drop 2).take 1 ++ ((cs.drop 3).take 1 ++ ((cs.drop 4).take 27 ++ (cs.drop 31).take 27)))) := by
      rw [List.take_of_length_le (l := cs.drop 31) (by simp; omega)]
      conv => lhs; rw [← List.take_append_drop 1 cs, ← List.take_append_drop 1 (cs.drop 1), List.drop_drop, ← List.take_append_drop 1 (cs.drop 2), List.drop_drop, ← List.take_append_drop 1 (cs.drop 3), List.drop_drop, ← List.take_append_drop 27 (cs.drop 4), List.drop_drop]
    rw [e0, e1, e2, e3, e4, e5] at s
    rw [s]
    simp [Nr.cs, Nr.hd]
set_option maxRecDepth 100000 in
/-- changes in a row -/
theorem open_nodes0U {fuel : Nat} {v : Value} {x : DataW H × List MemPlace} (hf : DataW.trod enc Try.prog W 0 (fun _ => true) true fuel 22 [v] = some x) (hk : Rows.uptoBulk x.1 ≤ 1048576) :
    ∃ ao n c G, v = .slice ao n c ∧ Grz W ao G ∧ G.length = n ∧ n ≤ c ∧ n ≤ Rows.uptoBulk x.1 ∧ ∀ r ∈ G, nsum (r.E.map Er.d) + osum (r.E.map Er.d) + (r.E.map Er.d).length ≤ 1048576 := by
  rcases open_slice Try.underlying22 hf with ⟨hcs, hx⟩ | ⟨a, l, c, m, n, D, Pl, hcs, _, hl, hm, hm2, hx, hrow⟩
  · simp only [List.cons.injEq, and_true] at hcs
    subst hcs
    exact ⟨none, 0, 0, [], rfl, ⟨fun k r hr => by simp at hr, fun k r hr => by simp at hr⟩, rfl, Nat.le_refl _, Nat.zero_le _, fun r hr => by cases hr⟩
  · simp only [List.cons.injEq, and_true] at hcs
    subst hcs
    simp only [if_true] at hm2
    subst hm2
    subst hx
    have each : ∀ r, ∃ e : Nr, r < l → (∃ g o, a = ⟨g, o, none⟩ ∧ W.rangeAt g (o + r * 58) e.cs) ∧ Nz W e ∧ nsum (e.E.map Er.d) + osum (e.E.map Er.d) + e.E.length ≤ 1048576 := fun r => by
      by_cases hr : r < l
      · obtain ⟨cs', h1, h2⟩ := hrow r (by omega)
        rw [cells63] at h1
        have hkr : Rows.uptoBulk (D r) ≤ 1048576 := by
          have := bulk_mem D l r hr
          simp only [Rows.uptoBulk] at hk
          omega
        obtain ⟨e, ee, t1, t2⟩ := open_nodeU h2 hkr
        subst ee
        obtain ⟨_, hlen, hcell⟩ := World.cells?_some h1
        obtain ⟨g, o, sp⟩ := a
        have hs : sp = none := by
          obtain ⟨_, h01, _⟩ := hrow 0 (by omega)
          rw [cells63] at h01
          obtain ⟨_, hl0, hc0⟩ := World.cells?_some h01
          have := World.cell?_spot ((hc0 0 (by omega)).trans (List.getElem?_eq_getElem (by omega)))
          simpa [Addr.add] using this
        subst hs
        refine ⟨e, fun _ => ⟨⟨g, o, rfl, fun j u hj => ?_⟩, t1, t2⟩⟩
        have hjl := (List.getElem?_eq_some_iff.1 hj).1
        have c0 := hcell j (by omega)
        rw [add_none, add_none] at c0
        rw [c0]
        exact hj
      · exact ⟨zr, fun h => absurd h hr⟩
    obtain ⟨f, hff⟩ := Classical.axiomOfChoice each
    have hat : ∀ (k : Nat) (r : Nr), ((List.range l).map f)[k]? = some r → k < l ∧ r = f k := fun k r hk => by
      have hk' : k < l := by have := (List.getElem?_eq_some_iff.1 hk).1; simpa using this
      rw [List.getElem?_map, List.getElem?_range hk'] at hk
      simp at hk
      exact ⟨hk', hk.symm⟩
    refine ⟨some a, l, _, (List.range l).map f, rfl, ⟨fun k r hk => ?_, fun k r hk => ?_⟩, by simp, by omega, ?_, fun r hr => ?_⟩
    · obtain ⟨hk', rfl⟩ := hat k r hk
      obtain ⟨⟨g, o, e0, e1⟩, -⟩ := hff k hk'
      exact ⟨g, o, by rw [e0], e1⟩
    · obtain ⟨hk', rfl⟩ := hat k r hk
      exact (hff k hk').2.1
    · have := bulk_len ((List.range l).map D)
      simp only [Rows.uptoBulk, List.length_map, List.length_range] at this ⊢
      omega
    · obtain ⟨k, hk'⟩ := List.getElem?_of_mem hr
      obtain ⟨hk2, rfl⟩ := hat k r hk'
      rw [List.length_map]
      exact (hff k hk2).2.2

set_option maxRecDepth 100000 in
/-- a history -/
theorem open_groveU {r : Reach} {b0 : Nat} {v : Value} {d : DataW H} {p : List MemPlace} (hval : Value.okWide Try.prog W r b0 24 v) (h : DataW.Trod enc Try.prog W 0 (fun _ => true) true 24 v d p) (hk : Rows.uptoBulk d ≤ 1048576) :
    ∃ ao n c now G, v = .agg #[.slice ao n c, .int .i64 now] ∧ Grz W ao G ∧ G.length = n ∧ n ≤ c ∧ n ≤ 1048576 ∧ ∀ d ∈ G.map Nr.d, nsum d.ed + osum d.ed + d.ed.length ≤ 1048576 := by
  obtain ⟨cs, rfl, -⟩ := okWide_struct Try.underlying24 hval
  obtain ⟨cs⟩ := cs
  obtain ⟨fuel, hf⟩ := h
  obtain ⟨xs, n, -, hx, hl, hxl, hfl⟩ := DataW.trod_struct Try.underlying24 hf
  rw [cells24] at hl
  have hl' : cs.length = 2 := hl
  match xs, hxl, cs, hl' with
  | [y0, y1], _, [v0, v1], _ =>
    have g0 : DataW.trod enc Try.prog W 0 (fun _ => true) true n 22 [v0] = some y0 := by simpa [Value.cells, cells22'] using hfl 0 _ rfl
    have g1 : DataW.trod enc Try.prog W 0 (fun _ => true) true n 3 [v1] = some y1 := by simpa [Value.cells, cells3] using hfl 1 _ rfl
    have e9 : d = .agg ([y0, y1].map (·.1)) := by have := congrArg Prod.fst hx; simpa using this
    have hbk : Rows.uptoBulk d = Rows.uptoBulk y0.1 + (Rows.uptoBulk y1.1 + 0) + 1 := by rw [e9]; rfl
    obtain ⟨ao, k, c, G, rfl, hG, hG1, hG2, hG3, hG4⟩ := open_nodes0U g0 (by omega)
    obtain ⟨z, e1, -, -⟩ := DataW.trod_int Try.underlying3 g1
    simp only [List.cons.injEq, and_true] at e1
    subst e1
    refine ⟨ao, k, c, z, G, rfl, hG, hG1, hG2, by omega, fun x hx => ?_⟩
    obtain ⟨y, hy, rfl⟩ := List.mem_map.1 hx
    exact hG4 y hy
end
end Go.Proofs.Ytaahklapoppgaaa
