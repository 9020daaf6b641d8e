/- What the law quoinlaw02.ShadeBlack holds within one step of its script, and helpers for its steps. -/
import Derived.Test.YtpifjghhlcjedaaBstate
import Derived.Test.YtpifjghhlcjedaaOpen2
import Derived.Test.YtpifjghhlcjedaaOps2
import Derived.Test.YtpifjghhlcjedaaOps3
namespace Go.Proofs.Ytpifjghhlcjedaa
open Go.RowKit Go.Shelf

theorem Rk.Rrs.left {w W : World} {R S : List Rk.Rr} (h : Rk.Rrs w W (R ++ S)) : Rk.Rrs w W R :=
  ⟨fun i r hi => h.own i r (by rw [List.getElem?_append_left (List.getElem?_eq_some_iff.1 hi).1]; exact hi), fun i j p q hij hi hj => h.far i j p q hij (by rw [List.getElem?_append_left (List.getElem?_eq_some_iff.1 hi).1]; exact hi) (by rw [List.getElem?_append_left (List.getElem?_eq_some_iff.1 hj).1]; exact hj), h.bel⟩

/-- within a step -/
structure Sst (w W : World) (vt vl : Value) (Es : List Ent) (st : Stp) (b7 b13 b14 : Nat) (x13 x14 : Option Addr) : Prop where
  rows : Rk.Rrs w W ([⟨26, 1, vt, Es.length, Es.map (fun e => .pointer e.a)⟩, ⟨33, 1, vl, Es.length, Es.map (fun e => e.v)⟩] ++ [⟨26, 1, .slice (some ⟨b13, 0, none⟩) 1 1, 1, [.pointer x13]⟩, ⟨26, 1, .slice (some ⟨b14, 0, none⟩) 1 1, 1, [.pointer x14]⟩, ⟨35, 9, .slice (some ⟨b7, 0, none⟩) 1 1, 1, st.cs⟩])
  one : ∀ e ∈ Es, One W e.t e.a e.v
section
variable {w W : World} {vt vl : Value} {Es : List Ent} {st : Stp} {b7 b13 b14 : Nat} {x13 x14 : Option Addr}
theorem Sst.below {W' : World} (h : Sst w W vt vl Es st b7 b13 b14 x13 x14) (hb : Below W.heap.size W W') : Sst w W' vt vl Es st b7 b13 b14 x13 x14 :=
  ⟨h.rows.keep hb, fun e he => (h.one e he).below hb⟩
theorem Sst.bst (h : Sst w W vt vl Es st b7 b13 b14 x13 x14) : Bst w W vt vl Es := ⟨h.rows.left, h.one⟩
theorem Sst.bel (h : Sst w W vt vl Es st b7 b13 b14 x13 x14) : Below w.heap.size w W := h.rows.bel
theorem Sst.step (h : Sst w W vt vl Es st b7 b13 b14 x13 x14) (j : Nat) (hj : j < 9) : W.cell? ⟨b7, j, none⟩ = st.cs[j]? :=
  (h.rows.own 4 _ rfl).cellAt j (by show j < 1 * 9; omega)
theorem Sst.steps (h : Sst w W vt vl Es st b7 b13 b14 x13 x14) : W.cell? ⟨b7, 0, none⟩ = some (.int .i64 st.k) ∧ W.cell? ⟨b7, 3, none⟩ = some (.int .i64 st.i) ∧ W.cell? ⟨b7, 4, none⟩ = some (.int .i64 st.p.s) ∧ W.cell? ⟨b7, 5, none⟩ = some (.int .i64 st.p.o) ∧ W.cell? ⟨b7, 6, none⟩ = some (.int .i64 st.p.l) ∧ W.cell? ⟨b7, 7, none⟩ = some (.int .i64 st.p.n) ∧ W.cell? ⟨b7, 8, none⟩ = some st.v :=
  ⟨h.step 0 (by omega), h.step 3 (by omega), h.step 4 (by omega), h.step 5 (by omega), h.step 6 (by omega), h.step 7 (by omega), h.step 8 (by omega)⟩
theorem Sst.box13 (h : Sst w W vt vl Es st b7 b13 b14 x13 x14) : W.cell? ⟨b13, 0, none⟩ = some (.pointer x13) ∧ W.frozen? ⟨b13, 0, none⟩ = false :=
  ⟨(h.rows.own 2 _ rfl).cellAt 0 (by show 0 < 1 * 1; decide), (h.rows.own 2 _ rfl).frozenAt 0⟩
theorem Sst.box14 (h : Sst w W vt vl Es st b7 b13 b14 x13 x14) : W.cell? ⟨b14, 0, none⟩ = some (.pointer x14) ∧ W.frozen? ⟨b14, 0, none⟩ = false :=
  ⟨(h.rows.own 3 _ rfl).cellAt 0 (by show 0 < 1 * 1; decide), (h.rows.own 3 _ rfl).frozenAt 0⟩
theorem Sst.put13 (h : Sst w W vt vl Es st b7 b13 b14 x13 x14) (x : Option Addr) : Sst w (W.setCell ⟨b13, 0, none⟩ (.pointer x)) vt vl Es st b7 b13 b14 x x14 := by
  have hr := h.rows.own 2 _ rfl
  have hs := hr.stored 0 (.pointer x)
  exact ⟨h.rows.store (i := 2) rfl 0 (.pointer x), fun e he => (h.one e he).grown hr ⟨(by decide : (26 : Nat) ≠ 32), (by decide : (26 : Nat) ≠ 137)⟩ hs.2⟩
theorem Sst.put14 (h : Sst w W vt vl Es st b7 b13 b14 x13 x14) (x : Option Addr) : Sst w (W.setCell ⟨b14, 0, none⟩ (.pointer x)) vt vl Es st b7 b13 b14 x13 x := by
  have hr := h.rows.own 3 _ rfl
  have hs := hr.stored 0 (.pointer x)
  exact ⟨h.rows.store (i := 3) rfl 0 (.pointer x), fun e he => (h.one e he).grown hr ⟨(by decide : (26 : Nat) ≠ 32), (by decide : (26 : Nat) ≠ 137)⟩ hs.2⟩
theorem Sst.at13 (h : Sst w W vt vl Es st b7 b13 b14 x13 x14) (x : Option Addr) {T : Tr} {a : Option Addr} (hT : At W T a) : At (W.setCell ⟨b13, 0, none⟩ (.pointer x)) T a :=
  (Nods.grown ((h.rows.own 2 _ rfl).stored 0 (.pointer x)).2 (own_tag (h.rows.own 2 _ rfl) (by decide : (26 : Nat) ≠ 137))).at hT
theorem Sst.at14 (h : Sst w W vt vl Es st b7 b13 b14 x13 x14) (x : Option Addr) {T : Tr} {a : Option Addr} (hT : At W T a) : At (W.setCell ⟨b14, 0, none⟩ (.pointer x)) T a :=
  (Nods.grown ((h.rows.own 3 _ rfl).stored 0 (.pointer x)).2 (own_tag (h.rows.own 3 _ rfl) (by decide : (26 : Nat) ≠ 137))).at hT
theorem Sst.ne (h : Sst w W vt vl Es st b7 b13 b14 x13 x14) : b7 ≠ b13 ∧ b7 ≠ b14 ∧ b13 ≠ b14 := by
  refine ⟨fun e => ?_, fun e => ?_, fun e => ?_⟩
  · exact h.rows.far 4 2 _ _ (by decide) rfl rfl b7 rfl (by rw [e]; rfl)
  · exact h.rows.far 4 3 _ _ (by decide) rfl rfl b7 rfl (by rw [e]; rfl)
  · exact h.rows.far 2 3 _ _ (by decide) rfl rfl b13 rfl (by rw [e]; rfl)
theorem Sst.neT {g m c : Nat} (h : Sst w W (.slice (some ⟨g, 0, none⟩) m c) vl Es st b7 b13 b14 x13 x14) : g ≠ b13 ∧ g ≠ b14 :=
  ⟨fun e => h.rows.far 0 2 _ _ (by decide) rfl rfl g rfl (by rw [e]; rfl), fun e => h.rows.far 0 3 _ _ (by decide) rfl rfl g rfl (by rw [e]; rfl)⟩
theorem Sst.neL {g m c : Nat} (h : Sst w W vt (.slice (some ⟨g, 0, none⟩) m c) Es st b7 b13 b14 x13 x14) : g ≠ b13 ∧ g ≠ b14 :=
  ⟨fun e => h.rows.far 1 2 _ _ (by decide) rfl rfl g rfl (by rw [e]; rfl), fun e => h.rows.far 1 3 _ _ (by decide) rfl rfl g rfl (by rw [e]; rfl)⟩
/-- an entry more: first the tree, then the list; between them the world may grow -/
theorem Sst.push {W1 W1' W2 : World} {vt' vl' : Value} {e : Ent} (h : Sst w W vt vl Es st b7 b13 b14 x13 x14) (he : One W e.t e.a e.v)
    (g1 : W.grownBy W1 vt.ownBlock) (o1 : W1.ownsRow w.heap.size 26 1 vt' (Es.length + 1) (Es.map (fun e => .pointer e.a) ++ [.pointer e.a])) (f1 : vt'.ownBlock = vt.ownBlock ∨ ∃ q, vt'.ownBlock = some q ∧ W.heap.size ≤ q) (hb : Below W1.heap.size W1 W1')
    (g2 : W1'.grownBy W2 vl.ownBlock) (o2 : W2.ownsRow w.heap.size 33 1 vl' (Es.length + 1) (Es.map (fun e => e.v) ++ [e.v])) (f2 : vl'.ownBlock = vl.ownBlock ∨ ∃ q, vl'.ownBlock = some q ∧ W1'.heap.size ≤ q) : Sst w W2 vt' vl' (Es ++ [e]) st b7 b13 b14 x13 x14 ∧ ∀ T a v, One W T a v → One W2 T a v := by
  have k0 := h.rows.own 0 _ rfl
  have r1 := (h.rows.grow (i := 0) rfl g1 o1 f1).keep hb
  have k1 := r1.own 1 _ rfl
  have r2 := r1.grow (i := 1) rfl g2 o2 f2
  have all : ∀ T a v, One W T a v → One W2 T a v := fun T a v hx => ((hx.grown k0 ⟨(by decide : (26 : Nat) ≠ 32), (by decide : (26 : Nat) ≠ 137)⟩ g1).below hb).grown k1 ⟨(by decide : (33 : Nat) ≠ 32), (by decide : (33 : Nat) ≠ 137)⟩ g2
  refine ⟨⟨?_, fun x hx => ?_⟩, all⟩
  · rw [List.length_append, List.map_append, List.map_append]
    exact r2
  · rcases List.mem_append.1 hx with hx | hx
    · exact all _ _ _ (h.one x hx)
    · simp at hx
      subst hx
      exact all _ _ _ he
end

/-- what the switch leaves -/
def Left (w : World) (Es : List Ent) (st : Stp) (b7 b13 b14 : Nat) (x4 x5 x15 x16 x18 : Value) (W : World) : Prop :=
  ∃ Es' x13 x14, Sst w W x4 x5 Es' st b7 b13 b14 x13 x14 ∧ 1 ≤ Es'.length ∧ Es'.length ≤ Es.length + 1 ∧
    ((x15 = .int .i64 0 ∧ x18 = .bool true ∧ ∃ T, One W T x13 x16) ∨ (x18 = .bool false ∧ (∃ e : Int, ¬ e = 0 ∧ x15 = .int .i64 e) ∧ x13 = none ∧ x14 = none))

/-- append in a region that draws -/
theorem step_append_srv {w : World} {ops : Array Oper} {o : Oper} {a : Act} {K : Act → World → Prop} {Q : Exit → Act → World → Prop} {E : Prop} (hgd : o.guard = none) (s x : Operand) (t : Nat)
    (ho : o.op = .call { callee := .builtin .append, args := #[s, x], argTypes := #[t, t] })
    (base e : Nat) (i : TypeInfo) (z : Value) (size bytes : Nat) (ht : Try.prog.underlying t = some (.slice e)) (hi : Try.prog.info? e = some i) (hz : i.zero = some z) (hsize : i.size = size) (hby : i.bytes = bytes) (hzs : z.cells.size = size) (hsz : 0 < size)
    (v : Value) (n : Nat) (xs : List Value) (hs : a.eval s = v) (hown : w.ownsRow base e size v n xs)
    (u : Value) (m : Nat) (news : List Value) (hx : a.eval x = u) (hsrc : Rk.Srv w u m news) (hl : news.length = m * size)
    (h1 : ∀ u ∈ news, u.oneCell' = true) (h63 : n + m ≤ maxLen) (hb : (n + m) * bytes ≤ 140737488355328) (hbase : base ≤ w.heap.size)
    (h : ∀ v' w', w'.ownsRow base e size v' (n + m) (xs ++ news) → w.grownBy w' v.ownBlock → (v'.ownBlock = v.ownBlock ∨ ∃ q, v'.ownBlock = some q ∧ w.heap.size ≤ q) → K (a.put o.dst v') w') :
    if Region.wanted o (yielded ops a.tmps) = true then Oper.wp Try.prog o a w K Q else E := by
  have hw : Region.wanted o (yielded ops a.tmps) = true := by simp [Region.wanted, hgd]
  rw [if_pos hw]
  rcases hsrc with ⟨hu, h0, h2⟩ | ⟨ad, c, hu, hcell⟩
  · subst hu h0 h2
    have hrun := run_append_owned_none (P := Try.prog) (w := w) base t o.type e i size ht hi v n xs hown
    unfold Oper.wp
    simp [execOp, ho, resolve, invoke, builtin, hs, hx, hrun, Result.andThen]
    exact h v w (by simpa using hown) ⟨rfl, rfl, rfl, Nat.le_refl _, fun _ _ _ => rfl⟩ (.inl rfl)
  · subst hu
    obtain ⟨v', w', hr, h2, h3, h4, h5⟩ := run_append_own_at (P := Try.prog) w base t o.type e i z size bytes ht hi hz hsize hby hzs hsz v n xs hown ad m c news hl hcell h1 h63 hb hbase
    unfold Oper.wp execOp
    simp only [ho, resolve, invoke, builtin, Sem.run_bind, Sem.run_pure, Result.andThen_ok, List.map_toArray, List.map_cons, List.map_nil, hs, hx, hr]
    refine h v' w' h2 h3 ?_
    rcases h5 with e | e
    · exact .inl e
    · exact .inr ⟨_, e, Nat.le_refl _⟩

/-- parts of a code -/
def cL : Code → Code | .seq a _ => a | .cond _ a _ => a | .block _ a => a | .loop a => a | c => c
def cR : Code → Code | .seq _ b => b | .cond _ _ b => b | c => c
/-- one step of the script -/
def stepC (f : Func) : Code := cL (cL (cR (cL (cL (cR (cL (cR (cR (cR (cR (cR (f.body.getD .skip))))))))))))
/-- the switch over the kinds -/
def swC (f : Func) : Code := cR (cL (cR (cR (cR (cR (cR (cR (cR (cR (cR (stepC f)))))))))))
end Go.Proofs.Ytpifjghhlcjedaa
namespace Go.Proofs.Ytpifjghhlcjedaa
open Go.RowKit Go.Shelf

theorem one_mk {W : World} {T : Tr} {x : Option Addr} {v : Value} {n base : Nat} {L : List Pc} (hT : At W T x) (hw : T.whole) (hL : T.list = L) (hf : ∀ p ∈ L, p.fit) (hz : L.length ≤ 100000) (hn : n = L.length) (hr : W.ownsRow base 32 4 v n (cells L)) : One W T x v := by
  have e : T.size = L.length := by rw [← Tr.size_list, hL]
  refine ⟨hT, hw, (Tr.fine_list T).2 (by rw [hL]; exact ⟨hf, by omega⟩), by omega, base, ?_⟩
  rw [hL, e, ← hn]; exact hr
theorem One.fits {W : World} {T : Tr} {x : Option Addr} {v : Value} (h : One W T x v) : ∀ p ∈ T.list, p.fit := ((Tr.fine_list T).1 h.fi).1
theorem One.len {W : World} {T : Tr} {x : Option Addr} {v : Value} (_h : One W T x v) : T.list.length = T.size := Tr.size_list T
/-- an entry's list, as a value of which the shape is known -/
theorem One.parts {W : World} {T : Tr} {x ao : Option Addr} {v : Value} {n c : Nat} (h : One W T x v) (hv : v = .slice ao n c) : n = T.size ∧ (ao = none → c = 0) ∧ (ao = none ∨ ∃ b off, ao = some ⟨b, off, none⟩) ∧ Rdb W (.slice ao T.size c) T.list ∧ T.size ≤ c := by
  obtain ⟨ao', c', h1, h2, h3⟩ := h.shape
  rw [h1] at hv
  obtain ⟨rfl, rfl, rfl⟩ : ao' = ao ∧ T.size = n ∧ c' = c := by simpa using hv
  have hR := h.rdb
  rw [h1] at hR
  refine ⟨rfl, h2, h3, hR, ?_⟩
  obtain ⟨_, _, _, e1, _, e3, _⟩ := hR
  obtain ⟨-, rfl, rfl⟩ : ao' = _ ∧ T.size = _ ∧ c' = _ := by simpa using e1
  exact e3
section
variable {w W : World} {vt vl : Value} {Es : List Ent} {st : Stp} {b7 b13 b14 : Nat} {x13 x14 : Option Addr}
theorem Sst.ent (h : Sst w W vt vl Es st b7 b13 b14 x13 x14) {k : Nat} {e : Ent} (hk : Es[k]? = some e) : One W e.t e.a e.v := h.one e (List.mem_of_getElem? hk)
end
theorem ent_lt {Es : List Ent} {k m : Nat} {e : Ent} (hk : Es[k]? = some e) (hm : m = Es.length) : (k : Int) < (m : Int) := by have := (List.getElem?_eq_some_iff.1 hk).1; omega

/-- the whole of a list, copied -/
theorem cut14_all {ao : Option Addr} {n c : Nat} {L : List Pc} {w : World} (hn0 : ao = none → c = 0) (hn : ao = none ∨ ∃ b off, ao = some ⟨b, off, none⟩) (h : Rdb w (.slice ao n c) L) (hz : n ≤ 1048576) (hL : L.length = n) :
    Calls Try.prog 14 #[.slice ao n c, .int .i64 0, .int .i64 (n : Int)] w fun e w' => ∃ a' c', e = .returned (.slice a' n c') ∧ w'.ownsRow w.heap.size 32 4 (.slice a' n c') n (cells L) ∧ Below w.heap.size w w' := by
  have := cut14_any ao n c 0 n L w hn0 hn h (Nat.zero_le _) (Nat.le_refl _) hz
  simpa [List.take_of_length_le (Nat.le_of_eq hL)] using this
/-- a list's beginning, copied -/
theorem cut14_to {ao : Option Addr} {n c j : Nat} {L : List Pc} {w : World} (hn0 : ao = none → c = 0) (hn : ao = none ∨ ∃ b off, ao = some ⟨b, off, none⟩) (h : Rdb w (.slice ao n c) L) (hz : n ≤ 1048576) (hj : j ≤ n) :
    Calls Try.prog 14 #[.slice ao n c, .int .i64 0, .int .i64 (j : Int)] w fun e w' => ∃ a' c', e = .returned (.slice a' j c') ∧ w'.ownsRow w.heap.size 32 4 (.slice a' j c') j (cells (L.take j)) ∧ Below w.heap.size w w' := by
  have := cut14_any ao n c 0 j L w hn0 hn h (Nat.zero_le _) hj hz
  simpa using this
/-- a list's end, copied -/
theorem cut14_from {ao : Option Addr} {n c i : Nat} {L : List Pc} {w : World} (hn0 : ao = none → c = 0) (hn : ao = none ∨ ∃ b off, ao = some ⟨b, off, none⟩) (h : Rdb w (.slice ao n c) L) (hz : n ≤ 1048576) (hi : i ≤ n) (hL : L.length = n) :
    Calls Try.prog 14 #[.slice ao n c, .int .i64 (i : Int), .int .i64 (n : Int)] w fun e w' => ∃ a' c', e = .returned (.slice a' (n - i) c') ∧ w'.ownsRow w.heap.size 32 4 (.slice a' (n - i) c') (n - i) (cells (L.drop i)) ∧ Below w.heap.size w w' := by
  have := cut14_any ao n c i n L w hn0 hn h hi (Nat.le_refl _) hz
  have e : (L.drop i).take (n - i) = L.drop i := List.take_of_length_le (by rw [List.length_drop, hL]; exact Nat.le_refl _)
  rwa [e] at this
end Go.Proofs.Ytpifjghhlcjedaa
namespace Go.Proofs.Ytpifjghhlcjedaa
open Go.RowKit Go.Shelf

theorem cells_set : ∀ (L : List Pc) (k : Nat) (p : Pc), cells (L.set k p) = ((((cells L).set (k * 4) (.int .i64 p.s)).set (k * 4 + 1) (.int .i64 p.o)).set (k * 4 + 2) (.int .i64 p.l)).set (k * 4 + 3) (.int .i64 p.n)
  | [], k, p => by simp [cells]
  | q :: L, 0, p => by simp [cells, Pc.cs]
  | q :: L, k + 1, p => by
    have ih := cells_set L k p
    have e : ∀ j, (k + 1) * 4 + j = (k * 4 + j) + 1 + 1 + 1 + 1 := fun j => by omega
    have e0 : (k + 1) * 4 = k * 4 + 1 + 1 + 1 + 1 := by omega
    rw [List.set_cons_succ]
    unfold cells at ih ⊢
    rw [List.flatMap_cons, List.flatMap_cons, ih, e 1, e 2, e 3, e0]
    simp [Pc.cs]
/-- one element of a row is stored -/
theorem own_store4 {W B : World} {g n c : Nat} {L : List Pc} (h : W.ownsRow B.heap.size 32 4 (.slice (some ⟨g, 0, none⟩) n c) n (cells L)) (hb : Below B.heap.size B W) (k : Nat) (p : Pc) :
    ((((W.setCell ⟨g, k * 4, none⟩ (.int .i64 p.s)).setCell ⟨g, k * 4 + 1, none⟩ (.int .i64 p.o)).setCell ⟨g, k * 4 + 2, none⟩ (.int .i64 p.l)).setCell ⟨g, k * 4 + 3, none⟩ (.int .i64 p.n)).ownsRow B.heap.size 32 4 (.slice (some ⟨g, 0, none⟩) n c) n (cells (L.set k p)) ∧
    Below B.heap.size B ((((W.setCell ⟨g, k * 4, none⟩ (.int .i64 p.s)).setCell ⟨g, k * 4 + 1, none⟩ (.int .i64 p.o)).setCell ⟨g, k * 4 + 2, none⟩ (.int .i64 p.l)).setCell ⟨g, k * 4 + 3, none⟩ (.int .i64 p.n)) := by
  have h1 := h.stored (k * 4) (.int .i64 p.s)
  have h2 := h1.1.stored (k * 4 + 1) (.int .i64 p.o)
  have h3 := h2.1.stored (k * 4 + 2) (.int .i64 p.l)
  have h4 := h3.1.stored (k * 4 + 3) (.int .i64 p.n)
  have b1 := hb.grown h1.2 hb.size (fun k hk => (h.lt k hk).1)
  have b2 := b1.grown h2.2 b1.size (fun k hk => (h.lt k hk).1)
  have b3 := b2.grown h3.2 b2.size (fun k hk => (h.lt k hk).1)
  have b4 := b3.grown h4.2 b3.size (fun k hk => (h.lt k hk).1)
  rw [cells_set]
  exact ⟨h4.1, b4⟩
theorem own_at4 {W : World} {base g n c : Nat} {L : List Pc} (h : W.ownsRow base 32 4 (.slice (some ⟨g, 0, none⟩) n c) n (cells L)) {k : Nat} (hk : k < n) (j : Nat) (hj : j < 4) : ∃ z, W.cell? ⟨g, k * 4 + j, none⟩ = some z := by
  have hl := h.1
  exact ⟨_, (h.cellAt (k * 4 + j) (by omega)).trans (List.getElem?_eq_getElem (by omega))⟩
/-- a list's end, to be appended -/
theorem end_srv {W : World} {b off n c i : Nat} {L : List Pc} (h : Rdb W (.slice (some ⟨b, off, none⟩) n c) L) (hi : i ≤ n) (hc : ¬ c = i) : Rk.Srv W (.slice (some ⟨b, off + i * 4, none⟩) (n - i) (c - i)) (n - i) (cells (L.drop i)) := by
  obtain ⟨ao, n', c', e1, h2, h3, h4⟩ := h
  obtain ⟨rfl, rfl, rfl⟩ : some ⟨b, off, none⟩ = ao ∧ n = n' ∧ c = c' := by simpa using e1
  rcases h4 with h4 | ⟨b', off', e2, hr⟩
  · subst h4
    obtain rfl : n = 0 := h2
    obtain rfl : i = 0 := by omega
    exact .inr ⟨_, _, rfl, fun j t hj => by simp [cells] at hj⟩
  · simp at e2
    obtain ⟨rfl, rfl⟩ := e2
    have := (rdb_srv (part_rdb hr h2.symm h3 hi (Nat.le_refl n)) (by simp)).2
    rwa [List.take_of_length_le (by rw [List.length_drop, ← h2]; exact Nat.le_refl _)] at this
end Go.Proofs.Ytpifjghhlcjedaa
