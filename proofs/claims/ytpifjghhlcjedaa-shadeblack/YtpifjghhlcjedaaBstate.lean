/- What the law quoinlaw02.ShadeBlack keeps between two steps of its script: trees and the lists that they stand for. -/
import Derived.Test.YtpifjghhlcjedaaBkit
import Derived.Test.YtpifjghhlcjedaaWhole
namespace Go.Proofs.Ytpifjghhlcjedaa
open Go.RowKit Go.Shelf

/-- a tree and the list that it stands for -/
structure One (W : World) (T : Tr) (a : Option Addr) (v : Value) : Prop where
  tree : At W T a
  wh : T.whole
  fi : T.fine
  sz : T.size ≤ 100000
  row : ∃ base, W.ownsRow base 32 4 v T.size (cells T.list)
theorem One.below {W W' : World} {T : Tr} {a : Option Addr} {v : Value} (h : One W T a v) (hb : Below W.heap.size W W') : One W' T a v :=
  ⟨h.tree.keep hb, h.wh, h.fi, h.sz, by obtain ⟨b, hr⟩ := h.row; exact ⟨b, Rk.own_keep hr hb⟩⟩
/-- a row of other things grows -/
theorem One.grown {W W' : World} {T : Tr} {a : Option Addr} {v u : Value} {base e size n : Nat} {xs : List Value} (h : One W T a v) (hr : W.ownsRow base e size u n xs) (he : e ≠ 32 ∧ e ≠ 137) (hg : W.grownBy W' u.ownBlock) : One W' T a v := by
  obtain ⟨b, hv⟩ := h.row
  exact ⟨(Nods.grown hg (own_tag hr he.2)).at h.tree, h.wh, h.fi, h.sz, b, hv.kept hg (Rk.far_type hv hr (fun e1 => he.1 e1.symm)).ne⟩
theorem One.rdb {W : World} {T : Tr} {a : Option Addr} {v : Value} (h : One W T a v) : Rdb W v T.list := by
  obtain ⟨b, hr⟩ := h.row
  exact own_rdb hr
theorem One.shape {W : World} {T : Tr} {a : Option Addr} {v : Value} (h : One W T a v) : ∃ ao c, v = .slice ao T.size c ∧ (ao = none → c = 0) ∧ (ao = none ∨ ∃ b off, ao = some ⟨b, off, none⟩) := by
  obtain ⟨b, hr⟩ := h.row
  rcases hr.2 with ⟨rfl, h0⟩ | ⟨g, cap, cur, rfl, _⟩
  · rw [h0]
    exact ⟨none, 0, rfl, fun _ => rfl, .inl rfl⟩
  · exact ⟨_, _, rfl, fun e => by simp at e, .inr ⟨g, 0, rfl⟩⟩
theorem One.srv {W : World} {T : Tr} {a : Option Addr} {v : Value} (h : One W T a v) : Rk.Srv W v T.size (cells T.list) := by
  obtain ⟨b, hr⟩ := h.row
  exact Rk.own_srv hr

/-- an entry of the two lists of the law -/
structure Ent where
  t : Tr
  a : Option Addr
  v : Value

/-- between two steps -/
structure Bst (w W : World) (vt vl : Value) (Es : List Ent) : Prop where
  rows : Rk.Rrs w W [⟨26, 1, vt, Es.length, Es.map (fun e => .pointer e.a)⟩, ⟨33, 1, vl, Es.length, Es.map (fun e => e.v)⟩]
  one : ∀ e ∈ Es, One W e.t e.a e.v
theorem Bst.below {w W W' : World} {vt vl : Value} {Es : List Ent} (h : Bst w W vt vl Es) (hb : Below W.heap.size W W') : Bst w W' vt vl Es :=
  ⟨h.rows.keep hb, fun e he => (h.one e he).below hb⟩
theorem Bst.shapeT {w W : World} {vt vl : Value} {Es : List Ent} (h : Bst w W vt vl Es) : ∃ a c, vt = .slice a Es.length c := own_shape (h.rows.own 0 _ rfl)
theorem Bst.shapeL {w W : World} {vt vl : Value} {Es : List Ent} (h : Bst w W vt vl Es) : ∃ a c, vl = .slice a Es.length c := own_shape (h.rows.own 1 _ rfl)
theorem row1_cell {w : World} {base e n k : Nat} {v u : Value} {xs : List Value} (h : w.ownsRow base e 1 v n xs) (hk : xs[k]? = some u) : ∃ g c, v = .slice (some ⟨g, 0, none⟩) n c ∧ n ≤ c ∧ k < n ∧ w.cell? ⟨g, k, none⟩ = some u := by
  have hl := h.1
  have hlt := (List.getElem?_eq_some_iff.1 hk).1
  rcases id h.2 with ⟨rfl, h0⟩ | ⟨g, cap, cur, rfl, hb, hg, h1, _⟩
  · omega
  · exact ⟨g, cap, rfl, h1, by omega, (h.cellAt k (by omega)).trans hk⟩
/-- the entry at k, read -/
theorem Bst.at {w W : World} {vt vl : Value} {Es : List Ent} (h : Bst w W vt vl Es) {k : Nat} {e : Ent} (hk : Es[k]? = some e) :
    ∃ g c g' c', vt = .slice (some ⟨g, 0, none⟩) Es.length c ∧ vl = .slice (some ⟨g', 0, none⟩) Es.length c' ∧ k < Es.length ∧ W.cell? ⟨g, k, none⟩ = some (.pointer e.a) ∧ W.cell? ⟨g', k, none⟩ = some e.v ∧ One W e.t e.a e.v := by
  obtain ⟨g, c, h1, _, h2, h3⟩ := row1_cell (h.rows.own 0 _ rfl) (k := k) (u := .pointer e.a) (by simp [hk])
  obtain ⟨g', c', h4, _, _, h5⟩ := row1_cell (h.rows.own 1 _ rfl) (k := k) (u := e.v) (by simp [hk])
  exact ⟨g, c, g', c', h1, h4, h2, h3, h5, h.one e (List.mem_of_getElem? hk)⟩
theorem Bst.cellT {w W : World} {vl : Value} {Es : List Ent} {g m c : Nat} (h : Bst w W (.slice (some ⟨g, 0, none⟩) m c) vl Es) {k : Nat} {e : Ent} (hk : Es[k]? = some e) : W.cell? ⟨g, k, none⟩ = some (.pointer e.a) := by
  obtain ⟨_, _, h1, _, h2, h3⟩ := row1_cell (h.rows.own 0 _ rfl) (k := k) (u := .pointer e.a) (by simp [hk])
  injection h1 with e1
  injection e1 with e1
  injection e1 with e1
  subst e1
  exact h3
theorem Bst.cellL {w W : World} {vt : Value} {Es : List Ent} {g m c : Nat} (h : Bst w W vt (.slice (some ⟨g, 0, none⟩) m c) Es) {k : Nat} {e : Ent} (hk : Es[k]? = some e) : W.cell? ⟨g, k, none⟩ = some e.v := by
  obtain ⟨_, _, h1, _, h2, h3⟩ := row1_cell (h.rows.own 1 _ rfl) (k := k) (u := e.v) (by simp [hk])
  injection h1 with e1
  injection e1 with e1
  injection e1 with e1
  subst e1
  exact h3
/-- an entry more: first the tree, then the list; between them the world may grow -/
theorem Bst.push {w W W1 W1' W2 : World} {vt vl vt' vl' : Value} {Es : List Ent} {e : Ent} (h : Bst w W vt vl Es) (he : One W e.t e.a e.v)
    (g1 : W.grownBy W1 vt.ownBlock) (o1 : W1.ownsRow w.heap.size 26 1 vt' (Es.length + 1) (Es.map (fun e => .pointer e.a) ++ [.pointer e.a])) (f1 : vt'.ownBlock = vt.ownBlock ∨ ∃ q, vt'.ownBlock = some q ∧ W.heap.size ≤ q) (hb : Below W1.heap.size W1 W1')
    (g2 : W1'.grownBy W2 vl.ownBlock) (o2 : W2.ownsRow w.heap.size 33 1 vl' (Es.length + 1) (Es.map (fun e => e.v) ++ [e.v])) (f2 : vl'.ownBlock = vl.ownBlock ∨ ∃ q, vl'.ownBlock = some q ∧ W1'.heap.size ≤ q) : Bst w W2 vt' vl' (Es ++ [e]) := by
  have k0 := h.rows.own 0 _ rfl
  have r1 := (h.rows.grow (i := 0) rfl g1 o1 f1).keep hb
  have k1 := r1.own 1 _ rfl
  have r2 := r1.grow (i := 1) rfl g2 o2 f2
  have all : ∀ x : Ent, One W x.t x.a x.v → One W2 x.t x.a x.v := fun x hx => ((hx.grown k0 ⟨(by decide : (26 : Nat) ≠ 32), (by decide : (26 : Nat) ≠ 137)⟩ g1).below hb).grown k1 ⟨(by decide : (33 : Nat) ≠ 32), (by decide : (33 : Nat) ≠ 137)⟩ g2
  refine ⟨?_, fun x hx => ?_⟩
  · rw [List.length_append, List.map_append, List.map_append]
    exact r2
  · rcases List.mem_append.1 hx with hx | hx
    · exact all x (h.one x hx)
    · simp at hx
      subst hx
      exact all x he
end Go.Proofs.Ytpifjghhlcjedaa
