/- The law's spoil: it writes over edits of one's own, and over nothing else. -/
import Derived.Test.YthklmdnamkjgmaaCpd
namespace Go.Proofs.Ythklmdnamkjgmaa
open Go.RowKit

set_option maxRecDepth 8000
theorem xr (x : UInt8) : bits BinOp.xor IntKind.u8 (x.toNat : Int) 85 = ((x ^^^ 85).toNat : Int) := by
  have h : ∀ k : Fin 256, bits BinOp.xor IntKind.u8 ((UInt8.ofNat k.val).toNat : Int) 85 = (((UInt8.ofNat k.val) ^^^ 85).toNat : Int) := by decide +kernel
  have := h ⟨x.toNat, x.toNat_lt⟩
  simpa using this
theorem bv_set (Y : List UInt8) (i : Nat) (x : UInt8) : (bv Y).set i (.int .u8 (x.toNat : Int)) = bv (Y.set i x) := by
  unfold bv; rw [List.map_set]
theorem Kept.grown {lo hi : Nat} {A B C : World} {r : Option Nat} (h : Kept lo hi A B) (hg : B.grownBy C r) (hr : ∀ g, r = some g → lo ≤ g ∧ (g < hi ∨ A.heap.size ≤ g)) : Kept lo hi A C :=
  ⟨hg.os.trans h.os, hg.tape.trans h.tape, hg.output.trans h.output, Nat.le_trans h.size hg.size, fun k hk ho => by
    rw [hg.block k (by have := h.size; omega) (fun e => by have := hr k e.symm; omega)]
    exact h.block k hk ho⟩
theorem Kept.new {lo hi : Nat} {A B C : World} (h : Kept lo hi A B) (hb : Below B.heap.size B C) : Kept lo hi A C :=
  h.trans ⟨hb.os, hb.tape, hb.output, hb.size, fun k hk _ => hb.block k hk⟩
/-- rows that are written over: what lies outside [w, hi) and is older than W0 lies on -/
structure Sp (w : World) (hi : Nat) (W0 W : World) (R : List Rw) : Prop where
  rws : Rws w W R
  kept : Kept w.heap.size hi W0 W
  blk : ∀ (i : Nat) (x : Rw), R[i]? = some x → ∀ g, x.v.ownBlock = some g → g < hi ∨ W0.heap.size ≤ g
theorem Sp.keep {w W0 W W' : World} {hi : Nat} {R : List Rw} (h : Sp w hi W0 W R) (hb : Below W.heap.size W W') : Sp w hi W0 W' R := ⟨h.rws.keep hb, h.kept.new hb, h.blk⟩
theorem Sp.grow {w W0 W W' : World} {hi : Nat} {R : List Rw} {i : Nat} {r : Rw} {t s n : Nat} {v : Value} {xs : List Value} (h : Sp w hi W0 W R) (hr : R[i]? = some r) (hg : W.grownBy W' r.v.ownBlock) (ho : W'.ownsRow w.heap.size t s v n xs)
    (hf : v.ownBlock = r.v.ownBlock ∨ ∃ q, v.ownBlock = some q ∧ W.heap.size ≤ q) : Sp w hi W0 W' (R.set i ⟨t, s, v, n, xs⟩) := by
  refine ⟨h.rws.grow hr hg ho hf, h.kept.grown hg (fun g e => ⟨((h.rws.own i r hr).lt g e).1, h.blk i r hr g e⟩), fun j x hj g hx => ?_⟩
  rcases set_at hj with ⟨_, hj⟩ | ⟨_, rfl⟩
  · exact h.blk j x hj g hx
  · rcases hf with e | ⟨q, e, hq⟩
    · exact h.blk i r hr g (by rw [← e]; exact hx)
    · rw [show v.ownBlock = some g from hx] at e
      injection e with e
      have := h.kept.size
      omega
theorem Sp.store {w W0 W : World} {hi : Nat} {R : List Rw} {i t s g n c : Nat} {xs : List Value} (h : Sp w hi W0 W R) (hr : R[i]? = some ⟨t, s, .slice (some ⟨g, 0, none⟩) n c, n, xs⟩) (j : Nat) (u : Value) :
    Sp w hi W0 (W.setCell ⟨g, j, none⟩ u) (R.set i ⟨t, s, .slice (some ⟨g, 0, none⟩) n c, n, xs.set j u⟩) := by
  obtain ⟨h1, h2⟩ := (h.rws.own i _ hr).stored j u
  exact h.grow hr h2 h1 (.inl rfl)
def rowF (v : Value) (F : List Er) : List Rw := ⟨38, 3, v, F.length, ecs F⟩ :: rowsE F
theorem rowF_at {v : Value} {F : List Er} {k : Nat} {r : Er} (h : F[k]? = some r) : (rowF v F)[k * 2 + 1]? = some r.r1 ∧ (rowF v F)[k * 2 + 1 + 1]? = some r.r2 := rowsE_at h
theorem rowsE_set1 {F : List Er} {k : Nat} {r r' : Er} (h : F[k]? = some r) (h2 : r'.r2 = r.r2) : rowsE (F.set k r') = (rowsE F).set (k * 2) r'.r1 := by
  induction F generalizing k with
  | nil => simp at h
  | cons x F ih =>
    cases k with
    | zero => simp at h; subst h; show [r'.r1, r'.r2] ++ rowsE F = _; rw [h2]; rfl
    | succ k =>
      rw [List.getElem?_cons_succ] at h
      show [x.r1, x.r2] ++ rowsE (F.set k r') = _
      rw [ih h, show (k + 1) * 2 = k * 2 + 1 + 1 by omega]
      rfl
theorem rowsE_set2 {F : List Er} {k : Nat} {r r' : Er} (h : F[k]? = some r) (h2 : r'.r1 = r.r1) : rowsE (F.set k r') = (rowsE F).set (k * 2 + 1) r'.r2 := by
  induction F generalizing k with
  | nil => simp at h
  | cons x F ih =>
    cases k with
    | zero => simp at h; subst h; show [r'.r1, r'.r2] ++ rowsE F = _; rw [h2]; rfl
    | succ k =>
      rw [List.getElem?_cons_succ] at h
      show [x.r1, x.r2] ++ rowsE (F.set k r') = _
      rw [ih h, show (k + 1) * 2 + 1 = k * 2 + 1 + 1 + 1 by omega]
      rfl
theorem rowsE_set0 {F : List Er} {k : Nat} {r r' : Er} (h : F[k]? = some r) (h1 : r'.r1 = r.r1) (h2 : r'.r2 = r.r2) : rowsE (F.set k r') = rowsE F := by
  rw [rowsE_set1 h h2, h1]
  obtain ⟨hi, e⟩ := List.getElem?_eq_some_iff.1 (rowsE_at h).1
  rw [← e]
  exact List.set_getElem_self hi
theorem ecs_set {F : List Er} {k j : Nat} {r r' : Er} {u : Value} (h : F[k]? = some r) (hj : j < 3) (h2 : r'.cs.toList = r.cs.toList.set j u) : ecs (F.set k r') = (ecs F).set (k * 3 + j) u := by
  induction F generalizing k with
  | nil => simp at h
  | cons x F ih =>
    cases k with
    | zero =>
      simp at h; subst h
      show r'.cs.toList ++ ecs F = (x.cs.toList ++ ecs F).set (0 * 3 + j) u
      rw [h2, List.set_append_left (0 * 3 + j) u (by simp [Er.cs]; omega), Nat.zero_mul, Nat.zero_add]
    | succ k =>
      rw [List.getElem?_cons_succ] at h
      show x.cs.toList ++ ecs (F.set k r') = (x.cs.toList ++ ecs F).set ((k + 1) * 3 + j) u
      rw [ih h, List.set_append_right ((k + 1) * 3 + j) u (by simp [Er.cs]; omega)]
      congr 2
      simp [Er.cs]; omega
theorem ecs_set0 {F : List Er} {k : Nat} {r r' : Er} (h : F[k]? = some r) (h2 : r'.cs = r.cs) : ecs (F.set k r') = ecs F := by
  induction F generalizing k with
  | nil => simp at h
  | cons x F ih =>
    cases k with
    | zero => simp at h; subst h; show r'.cs.toList ++ ecs F = _; rw [h2]; rfl
    | succ k =>
      rw [List.getElem?_cons_succ] at h
      show x.cs.toList ++ ecs (F.set k r') = _
      rw [ih h]; rfl
theorem set_self {F : List Er} {k : Nat} {r r' : Er} (h : F[k]? = some r) : (F.set k r')[k]? = some r' := by
  rw [List.getElem?_set_self (List.getElem?_eq_some_iff.1 h).1]
/-- a byte of an old text -/
theorem Sp.byte1 {w W0 W : World} {hi : Nat} {v : Value} {F : List Er} {k g1 o c1 n2 c2 : Nat} {a : Int} {O N : List UInt8} {p2 : Option Addr} (h : Sp w hi W0 W (rowF v F)) (hk : F[k]? = some ⟨a, some ⟨g1, 0, none⟩, o, c1, O, p2, n2, c2, N⟩) (j : Nat) (b : UInt8) :
    Sp w hi W0 (W.setCell ⟨g1, j, none⟩ (.int .u8 (b.toNat : Int))) (rowF v (F.set k ⟨a, some ⟨g1, 0, none⟩, o, c1, O.set j b, p2, n2, c2, N⟩)) := by
  have h1 := h.store (rowF_at hk).1 j (.int .u8 (b.toNat : Int))
  have e : rowF v (F.set k ⟨a, some ⟨g1, 0, none⟩, o, c1, O.set j b, p2, n2, c2, N⟩) = (rowF v F).set (k * 2 + 1) ⟨5, 1, .slice (some ⟨g1, 0, none⟩) o c1, o, (bv O).set j (.int .u8 (b.toNat : Int))⟩ := by
    unfold rowF
    rw [List.length_set, ecs_set0 (r' := ⟨a, some ⟨g1, 0, none⟩, o, c1, O.set j b, p2, n2, c2, N⟩) hk rfl, rowsE_set1 (r' := ⟨a, some ⟨g1, 0, none⟩, o, c1, O.set j b, p2, n2, c2, N⟩) hk rfl, bv_set]
    rfl
  rw [e]
  exact h1
theorem Sp.byte2 {w W0 W : World} {hi : Nat} {v : Value} {F : List Er} {k g1 o c1 n2 c2 : Nat} {a : Int} {O N : List UInt8} {p1 : Option Addr} (h : Sp w hi W0 W (rowF v F)) (hk : F[k]? = some ⟨a, p1, o, c1, O, some ⟨g1, 0, none⟩, n2, c2, N⟩) (j : Nat) (b : UInt8) :
    Sp w hi W0 (W.setCell ⟨g1, j, none⟩ (.int .u8 (b.toNat : Int))) (rowF v (F.set k ⟨a, p1, o, c1, O, some ⟨g1, 0, none⟩, n2, c2, N.set j b⟩)) := by
  have h1 := h.store (rowF_at hk).2 j (.int .u8 (b.toNat : Int))
  have e : rowF v (F.set k ⟨a, p1, o, c1, O, some ⟨g1, 0, none⟩, n2, c2, N.set j b⟩) = (rowF v F).set (k * 2 + 1 + 1) ⟨5, 1, .slice (some ⟨g1, 0, none⟩) n2 c2, n2, (bv N).set j (.int .u8 (b.toNat : Int))⟩ := by
    unfold rowF
    rw [List.length_set, ecs_set0 (r' := ⟨a, p1, o, c1, O, some ⟨g1, 0, none⟩, n2, c2, N.set j b⟩) hk rfl, rowsE_set2 (r' := ⟨a, p1, o, c1, O, some ⟨g1, 0, none⟩, n2, c2, N.set j b⟩) hk rfl, bv_set]
    rfl
  rw [e]
  exact h1
/-- an edit's place -/
theorem Sp.place {w W0 W : World} {hi g c n : Nat} {F : List Er} {k : Nat} {r : Er} (h : Sp w hi W0 W (rowF (.slice (some ⟨g, 0, none⟩) n c) F)) (hn : F.length = n) (hk : F[k]? = some r) (z : Int) :
    Sp w hi W0 (W.setCell ⟨g, k * 3, none⟩ (.int .i64 z)) (rowF (.slice (some ⟨g, 0, none⟩) n c) (F.set k ⟨z, r.p1, r.o, r.c1, r.O, r.p2, r.n, r.c2, r.N⟩)) := by
  subst hn
  have h1 := h.store (i := 0) (t := 38) (s := 3) (n := F.length) (xs := ecs F) rfl (k * 3) (.int .i64 z)
  have e : rowF (.slice (some ⟨g, 0, none⟩) F.length c) (F.set k ⟨z, r.p1, r.o, r.c1, r.O, r.p2, r.n, r.c2, r.N⟩) = (rowF (.slice (some ⟨g, 0, none⟩) F.length c) F).set 0 ⟨38, 3, .slice (some ⟨g, 0, none⟩) F.length c, F.length, (ecs F).set (k * 3) (.int .i64 z)⟩ := by
    unfold rowF
    rw [List.length_set, rowsE_set0 (r' := ⟨z, r.p1, r.o, r.c1, r.O, r.p2, r.n, r.c2, r.N⟩) hk rfl rfl, ecs_set (r' := ⟨z, r.p1, r.o, r.c1, r.O, r.p2, r.n, r.c2, r.N⟩) (j := 0) (u := .int .i64 z) hk (by omega) rfl]
    rfl
  rw [e]
  exact h1
/-- an old text that was grown is put in its place -/
theorem Sp.app1 {w W0 W W1 : World} {hi g c n : Nat} {F : List Er} {k : Nat} {r : Er} {p1 : Option Addr} {o1 c1 : Nat} {O1 : List UInt8} (h : Sp w hi W0 W (rowF (.slice (some ⟨g, 0, none⟩) n c) F)) (hn : F.length = n) (hk : F[k]? = some r)
    (hg : W.grownBy W1 (Value.slice r.p1 r.o r.c1).ownBlock) (ho : W1.ownsRow w.heap.size 5 1 (.slice p1 o1 c1) o1 (bv O1)) (hf : (Value.slice p1 o1 c1).ownBlock = (Value.slice r.p1 r.o r.c1).ownBlock ∨ ∃ q, (Value.slice p1 o1 c1).ownBlock = some q ∧ W.heap.size ≤ q) :
    Sp w hi W0 (W1.setCell ⟨g, k * 3 + 1, none⟩ (.slice p1 o1 c1)) (rowF (.slice (some ⟨g, 0, none⟩) n c) (F.set k ⟨r.a, p1, o1, c1, O1, r.p2, r.n, r.c2, r.N⟩)) := by
  subst hn
  have h1 := h.grow (rowF_at hk).1 hg ho hf
  have h2 := h1.store (i := 0) (t := 38) (s := 3) (g := g) (n := F.length) (c := c) (xs := ecs F) rfl (k * 3 + 1) (.slice p1 o1 c1)
  have e : rowF (.slice (some ⟨g, 0, none⟩) F.length c) (F.set k ⟨r.a, p1, o1, c1, O1, r.p2, r.n, r.c2, r.N⟩) = ((rowF (.slice (some ⟨g, 0, none⟩) F.length c) F).set (k * 2 + 1) ⟨5, 1, .slice p1 o1 c1, o1, bv O1⟩).set 0 ⟨38, 3, .slice (some ⟨g, 0, none⟩) F.length c, F.length, (ecs F).set (k * 3 + 1) (.slice p1 o1 c1)⟩ := by
    unfold rowF
    rw [List.length_set, rowsE_set1 (r' := ⟨r.a, p1, o1, c1, O1, r.p2, r.n, r.c2, r.N⟩) hk rfl, ecs_set (r' := ⟨r.a, p1, o1, c1, O1, r.p2, r.n, r.c2, r.N⟩) (j := 1) (u := .slice p1 o1 c1) hk (by omega) rfl]
    rfl
  rw [e]
  exact h2
theorem Sp.app2 {w W0 W W1 : World} {hi g c n : Nat} {F : List Er} {k : Nat} {r : Er} {p1 : Option Addr} {o1 c1 : Nat} {O1 : List UInt8} (h : Sp w hi W0 W (rowF (.slice (some ⟨g, 0, none⟩) n c) F)) (hn : F.length = n) (hk : F[k]? = some r)
    (hg : W.grownBy W1 (Value.slice r.p2 r.n r.c2).ownBlock) (ho : W1.ownsRow w.heap.size 5 1 (.slice p1 o1 c1) o1 (bv O1)) (hf : (Value.slice p1 o1 c1).ownBlock = (Value.slice r.p2 r.n r.c2).ownBlock ∨ ∃ q, (Value.slice p1 o1 c1).ownBlock = some q ∧ W.heap.size ≤ q) :
    Sp w hi W0 (W1.setCell ⟨g, k * 3 + 2, none⟩ (.slice p1 o1 c1)) (rowF (.slice (some ⟨g, 0, none⟩) n c) (F.set k ⟨r.a, r.p1, r.o, r.c1, r.O, p1, o1, c1, O1⟩)) := by
  subst hn
  have h1 := h.grow (rowF_at hk).2 hg ho hf
  have h2 := h1.store (i := 0) (t := 38) (s := 3) (g := g) (n := F.length) (c := c) (xs := ecs F) rfl (k * 3 + 2) (.slice p1 o1 c1)
  have e : rowF (.slice (some ⟨g, 0, none⟩) F.length c) (F.set k ⟨r.a, r.p1, r.o, r.c1, r.O, p1, o1, c1, O1⟩) = ((rowF (.slice (some ⟨g, 0, none⟩) F.length c) F).set (k * 2 + 1 + 1) ⟨5, 1, .slice p1 o1 c1, o1, bv O1⟩).set 0 ⟨38, 3, .slice (some ⟨g, 0, none⟩) F.length c, F.length, (ecs F).set (k * 3 + 2) (.slice p1 o1 c1)⟩ := by
    unfold rowF
    rw [List.length_set, rowsE_set2 (r' := ⟨r.a, r.p1, r.o, r.c1, r.O, p1, o1, c1, O1⟩) hk rfl, ecs_set (r' := ⟨r.a, r.p1, r.o, r.c1, r.O, p1, o1, c1, O1⟩) (j := 2) (u := .slice p1 o1 c1) hk (by omega) rfl]
    rfl
  rw [e]
  exact h2
/-- the cells of an edit of the list -/
structure Ec (W : World) (g k : Nat) (r : Er) : Prop where
  e0 : W.cell? ⟨g, k * 3, none⟩ = some (.int .i64 r.a)
  e1 : W.cell? ⟨g, k * 3 + 1, none⟩ = some (.slice r.p1 r.o r.c1)
  e2 : W.cell? ⟨g, k * 3 + 2, none⟩ = some (.slice r.p2 r.n r.c2)
  f : ∀ j, W.frozen? ⟨g, j, none⟩ = false
theorem own_ec {W : World} {base g n c k : Nat} {F : List Er} {r : Er} (h : W.ownsRow base 38 3 (.slice (some ⟨g, 0, none⟩) n c) n (ecs F)) (hk : F[k]? = some r) (hn : F.length = n) : Ec W g k r := by
  obtain ⟨h1, h2, h3⟩ := ecs_at hk
  have hl := (List.getElem?_eq_some_iff.1 hk).1
  exact ⟨by rw [h.cellAt _ (by omega)]; exact h1, by rw [h.cellAt _ (by omega)]; exact h2, by rw [h.cellAt _ (by omega)]; exact h3, fun j => h.frozenAt j⟩
theorem Sp.ec {w W0 W : World} {hi g c n k : Nat} {F : List Er} {r : Er} (h : Sp w hi W0 W (rowF (.slice (some ⟨g, 0, none⟩) n c) F)) (hn : F.length = n) (hk : F[k]? = some r) : Ec W g k r := by
  have := h.rws.own 0 _ rfl
  subst hn
  exact own_ec this hk rfl
theorem Sp.list {w W0 W : World} {hi n : Nat} {v : Value} {F : List Er} (h : Sp w hi W0 W (rowF v F)) (hn : F.length = n) : W.ownsRow w.heap.size 38 3 v n (ecs F) := by
  subst hn
  exact h.rws.own 0 _ rfl
theorem Ec.grown {W W' : World} {g k : Nat} {r : Er} {b : Option Nat} (h : Ec W g k r) (hg : W.grownBy W' b) (hne : some g ≠ b) : Ec W' g k r := by
  have hlt := lt_of_cell h.e0
  have hb := hg.block g hlt hne
  exact ⟨by rw [World.cell?_of_block hb]; exact h.e0, by rw [World.cell?_of_block hb]; exact h.e1, by rw [World.cell?_of_block hb]; exact h.e2, fun j => by rw [World.frozen?_of_block hb]; exact h.f j⟩
theorem Ec.keep {W W' : World} {g k : Nat} {r : Er} (h : Ec W g k r) (hb : Below W.heap.size W W') : Ec W' g k r := by
  have hb := hb.block g (lt_of_cell h.e0)
  exact ⟨by rw [World.cell?_of_block hb]; exact h.e0, by rw [World.cell?_of_block hb]; exact h.e1, by rw [World.cell?_of_block hb]; exact h.e2, fun j => by rw [World.frozen?_of_block hb]; exact h.f j⟩
theorem Sp.t1 {w W0 W : World} {hi k : Nat} {v : Value} {F : List Er} {r : Er} (h : Sp w hi W0 W (rowF v F)) (hk : F[k]? = some r) : W.ownsRow w.heap.size 5 1 (.slice r.p1 r.o r.c1) r.o (bv r.O) := h.rws.own _ _ (rowF_at hk).1
theorem Sp.t2 {w W0 W : World} {hi k : Nat} {v : Value} {F : List Er} {r : Er} (h : Sp w hi W0 W (rowF v F)) (hk : F[k]? = some r) : W.ownsRow w.heap.size 5 1 (.slice r.p2 r.n r.c2) r.n (bv r.N) := h.rws.own _ _ (rowF_at hk).2
theorem Sp.ne1 {w W0 W : World} {hi g c n k : Nat} {F : List Er} {r : Er} (h : Sp w hi W0 W (rowF (.slice (some ⟨g, 0, none⟩) n c) F)) (hk : F[k]? = some r) : some g ≠ (Value.slice r.p1 r.o r.c1).ownBlock := fun e =>
  h.rws.far 0 (k * 2 + 1) _ _ (by omega) rfl (rowF_at hk).1 g rfl e.symm
theorem Sp.ne2 {w W0 W : World} {hi g c n k : Nat} {F : List Er} {r : Er} (h : Sp w hi W0 W (rowF (.slice (some ⟨g, 0, none⟩) n c) F)) (hk : F[k]? = some r) : some g ≠ (Value.slice r.p2 r.n r.c2).ownBlock := fun e =>
  h.rws.far 0 (k * 2 + 1 + 1) _ _ (by omega) rfl (rowF_at hk).2 g rfl e.symm
theorem byte_at {W : World} {base n c j : Nat} {p : Option Addr} {l : List UInt8} (h : W.ownsRow base 5 1 (.slice p n c) n (bv l)) (hj : j < n) : ∃ g, p = some ⟨g, 0, none⟩ ∧ W.cell? ⟨g, j, none⟩ = some (.int .u8 ((at8 l j).toNat : Int)) ∧ W.frozen? ⟨g, j, none⟩ = false := by
  obtain ⟨g, cap, e, _⟩ := own_some h (by omega)
  simp at e
  obtain ⟨rfl, rfl⟩ := e
  have hl := h.1
  rw [bv_length] at hl
  exact ⟨g, rfl, by rw [h.cellAt j (by omega)]; exact bv_at l j (by omega), h.frozenAt j⟩
/-- bounds of the edits from i on -/
def Bnd (i : Nat) (F : List Er) : Prop := ∀ (k : Nat) (r : Er), i ≤ k → F[k]? = some r → r.o ≤ 140737488355328 ∧ r.n ≤ 140737488355328
theorem Bnd.set {i k : Nat} {F : List Er} {r : Er} (h : Bnd i F) (hk : k < i) : Bnd i (F.set k r) := fun j x hj hx => by
  rw [List.getElem?_set_ne (by omega)] at hx
  exact h j x hj hx
set_option maxHeartbeats 16000000 in
set_option linter.unusedSimpArgs false in
theorem spoil_any (v : Value) (F : List Er) (w W0 : World) (hi : Nat) (hS : Hid (Sp w hi W0 W0 (rowF v F))) (hB : Hid (Bnd 0 F)) (hn : F.length ≤ 2000) :
    Calls Try.prog 27 #[v] W0 fun e W' => (∃ z : Nat, e = .returned (.int .i64 (z : Int))) ∧ Kept w.heap.size hi W0 W' := by
  obtain ⟨n, hn0⟩ : ∃ n, F.length = n := ⟨_, rfl⟩
  obtain ⟨p, c, ev⟩ : ∃ p c, v = .slice p n c := by
    have h := hS.out.rws.own 0 _ rfl
    obtain ⟨p, c, e⟩ := own_shape h
    exact ⟨p, c, by rw [← hn0]; exact e⟩
  subst ev
  have HN := Hid.mk' hn0
  have hnb : n ≤ 2000 := by omega
  have hnI : (n : Int) ≤ 2000 := by omega
  clear hn0 hn
  go_enter Try.func27, Try.ntmps27
  go_wp2_with fail
  go_loopg [3, 4, 5, 6] n (fun m x3 x4 x5 x6 wx => ∃ (i : Nat) (G : List Er), x3 = .int .i64 (i : Int) ∧ i + m = n ∧ Hid (G.length = n) ∧ Hid (Bnd i G) ∧ Hid (Sp w hi W0 wx (rowF (.slice p n c) G)))
  case atStart => exact ⟨0, F, rfl, by omega, HN.out, hB.out, hS.out⟩
  case round =>
    obtain ⟨i, G, rfl, him, GN, GB, GS⟩ := hrel
    obtain ⟨go, hgo⟩ : ∃ g, g = gk - 1 := ⟨_, rfl⟩
    by_cases hi' : i < n
    · have hi0 : (0 : Int) ≤ (i : Int) := by omega
      have hi1 : (i : Int) < (n : Int) := by omega
      have hw3 : IntKind.i64.wrap ((i : Int) + 1) = ((i + 1 : Nat) : Int) := by rw [IntKind.wrap_i64]; omega
      obtain ⟨g, rfl⟩ : ∃ g, p = some ⟨g, 0, none⟩ := by
        have h := GS.out.rws.own 0 _ rfl
        obtain ⟨g, cap, e, _⟩ := own_some h (by show 1 ≤ G.length; rw [GN.out]; omega)
        simp at e
        exact ⟨g, e.1⟩
      obtain ⟨r, hr⟩ : ∃ r, G[i]? = some r := ⟨_, List.getElem?_eq_getElem (by have := GN.out; omega)⟩
      have hbr := GB.out i r (Nat.le_refl _) hr
      have GB1 : Hid (Bnd (i + 1) G) := fun k r hk => GB.out k r (by omega)
      obtain ⟨ra, p1, o, c1, O, p2, n2, c2, N⟩ := r
      have HB : Hid (o ≤ 140737488355328 ∧ n2 ≤ 140737488355328) := hbr
      have hob : o ≤ 140737488355328 := hbr.1
      have hnb2 : n2 ≤ 140737488355328 := hbr.2
      have HR := Hid.mk' hr
      clear hr hbr GB
      go_wp2_with fail
      go_loopg [4] o (fun m x4 wx => ∃ (j : Nat) (G : List Er) (O : List UInt8), x4 = .int .i64 (j : Int) ∧ j + m = o ∧ Hid (G.length = n) ∧ Hid (Bnd (i + 1) G) ∧ Hid (G[i]? = some ⟨ra, p1, o, c1, O, p2, n2, c2, N⟩) ∧ Hid (Sp w hi W0 wx (rowF (.slice (some ⟨g, 0, none⟩) n c) G)))
      case atStart => exact ⟨0, G, O, rfl, by omega, GN.out, GB1.out, HR.out, GS.out⟩
      case round =>
        clear GN GB1 HR GS
        obtain ⟨j, G, O, rfl, hjm, GN, GB1, HR, GS⟩ := hrel
        obtain ⟨go1, hgo1⟩ : ∃ g, g = gk - 1 := ⟨_, rfl⟩
        have hec := GS.out.ec GN.out HR.out
        have t1 := hec.e1
        have t2 := hec.e2
        clear hec
        by_cases hj : j < o
        · have hj0 : (0 : Int) ≤ (j : Int) := by omega
          have hj1 : (j : Int) < (o : Int) := by omega
          have hw4 : IntKind.i64.wrap ((j : Int) + 1) = ((j + 1 : Nat) : Int) := by rw [IntKind.wrap_i64]; omega
          obtain ⟨g1, e1, t3, f3⟩ := byte_at (GS.out.t1 HR.out) hj
          have e2 : p1 = some ⟨g1, 0, none⟩ := e1
          subst e2
          have hx := xr (at8 O j)
          have t4 : wr.cell? ⟨g1, j, none⟩ = some (.int .u8 ((at8 O j).toNat : Int)) := t3
          have GS2 := Hid.mk' (GS.out.byte1 HR.out j (at8 O j ^^^ 85))
          clear e1 t3 hj
          go_wp2
          go_roundg go1
          case measure => omega
          case rel => exact ⟨j + 1, _, _, by go_num, by omega, by unfold Hid; rw [List.length_set]; exact GN.out, GB1.out.set (by omega), set_self HR.out, GS2.out⟩
        · have hj1 : ¬ (j : Int) < (o : Int) := by omega
          clear hgo1 hjm hj
          go_wp2_with fail
          clear t1 t2 hj1
          go_loopg [5] n2 (fun m x5 wx => ∃ (j : Nat) (G : List Er) (N : List UInt8), x5 = .int .i64 (j : Int) ∧ j + m = n2 ∧ Hid (G.length = n) ∧ Hid (Bnd (i + 1) G) ∧ Hid (G[i]? = some ⟨ra, p1, o, c1, O, p2, n2, c2, N⟩) ∧ Hid (Sp w hi W0 wx (rowF (.slice (some ⟨g, 0, none⟩) n c) G)))
          case atStart => exact ⟨0, G, N, rfl, by omega, GN.out, GB1.out, HR.out, GS.out⟩
          case round =>
            clear GN GB1 HR GS
            obtain ⟨t, G, N, rfl, hjm, GN, GB1, HR, GS⟩ := hrel
            obtain ⟨go2, hgo2⟩ : ∃ g, g = gk - 1 := ⟨_, rfl⟩
            have hec := GS.out.ec GN.out HR.out
            have t1 := hec.e1
            have t2 := hec.e2
            clear hec
            by_cases hj : t < n2
            · have hj0 : (0 : Int) ≤ (t : Int) := by omega
              have hj1 : (t : Int) < (n2 : Int) := by omega
              have hw4 : IntKind.i64.wrap ((t : Int) + 1) = ((t + 1 : Nat) : Int) := by rw [IntKind.wrap_i64]; omega
              obtain ⟨g1, e1, t3, f3⟩ := byte_at (GS.out.t2 HR.out) hj
              have e2 : p2 = some ⟨g1, 0, none⟩ := e1
              subst e2
              have hx := xr (at8 N t)
              have t4 : wr.cell? ⟨g1, t, none⟩ = some (.int .u8 ((at8 N t).toNat : Int)) := t3
              have GS2 := Hid.mk' (GS.out.byte2 HR.out t (at8 N t ^^^ 85))
              clear e1 t3 hj
              go_wp2
              go_roundg go2
              case measure => omega
              case rel => exact ⟨t + 1, _, _, by go_num, by omega, by unfold Hid; rw [List.length_set]; exact GN.out, GB1.out.set (by omega), set_self HR.out, GS2.out⟩
            · have hj1 : ¬ (t : Int) < (n2 : Int) := by omega
              clear hgo2 hjm hj
              go_wp2_with fail
              clear t1 t2 hj1
              go_loopg [6] 8 (fun m x6 wx => ∃ (t : Nat) (G : List Er) (r : Er), x6 = .int .i64 (t : Int) ∧ t + m = 8 ∧ Hid (G.length = n) ∧ Hid (Bnd (i + 1) G) ∧ Hid (G[i]? = some r) ∧ Hid (r.o ≤ 140737488355328 + t ∧ r.n ≤ 140737488355328 + t) ∧ Hid (Sp w hi W0 wx (rowF (.slice (some ⟨g, 0, none⟩) n c) G)))
              case atStart => exact ⟨0, G, _, rfl, by omega, GN.out, GB1.out, HR.out, HB.out, GS.out⟩
              case round =>
                clear GN GB1 HR GS HB hob hnb2
                obtain ⟨t, G, ⟨ra, p1, o, c1, O, p2, n2, c2, N⟩, rfl, hjm, GN, GB1, HR, HB, GS⟩ := hrel
                obtain ⟨go3, hgo3⟩ : ∃ g, g = gk - 1 := ⟨_, rfl⟩
                have hec := GS.out.ec GN.out HR.out
                have EC := Hid.mk' hec
                clear hec
                by_cases hj : t < 8
                · have hj1 : (t : Int) < 8 := by omega
                  have hw4 : IntKind.i64.wrap ((t : Int) + 1) = ((t + 1 : Nat) : Int) := by rw [IntKind.wrap_i64]; omega
                  have hbb : o ≤ 140737488355328 + t ∧ n2 ≤ 140737488355328 + t := HB.out
                  have KW : Hid (Below wr.heap.size wr (wr.alloc (.cells (bv [119]).toArray 5))) := bAlloc (Below.refl _ _) _
                  have hSa := GS.out.keep KW.out
                  have O5 : Hid ((wr.alloc (.cells (bv [119]).toArray 5)).ownsRow w.heap.size 5 1 (.slice p1 o c1) o (bv O)) := hSa.t1 HR.out
                  have C5 : Hid (Srv (wr.alloc (.cells (bv [119]).toArray 5)) (.slice (some ⟨wr.heap.size, 0, none⟩) 1 1) 1 (bv [119])) := .inr ⟨_, 1, rfl, fun j u hj => lit_cells wr _ 5 j u hj⟩
                  have Z5 : Hid (w.heap.size ≤ (wr.alloc (.cells (bv [119]).toArray 5)).heap.size) := hSa.rws.size
                  have t1 : wr.cell? ⟨g, i * 3 + 1, none⟩ = some (.slice p1 o c1) := EC.out.e1
                  have SA := Hid.mk' hSa
                  clear hSa
                  go_wp2_with (at_builtin; refine append_big rfl (.tmp 64) (.tmp 65) rfl w.heap.size (.slice p1 o c1) o (bv O) rfl O5.out (.slice (some ⟨wr.heap.size, 0, none⟩) 1 1) 1 (bv [119]) rfl C5.out rfl (bv_one _) (by omega) (by omega) Z5.out ?_)
                  intro v1 w1 hown hgrow hfr
                  obtain ⟨p7, c7, rfl⟩ := own_shape hown
                  have hown2 : w1.ownsRow w.heap.size 5 1 (.slice p7 (o + 1) c7) (o + 1) (bv (O ++ [119])) := by rw [bv_append]; exact hown
                  have hS1 := SA.out.app1 GN.out HR.out hgrow hown2 (by rcases hfr with e | ⟨q, e, hq⟩; exact .inl e; exact .inr ⟨q, e, by simpa using hq⟩)
                  have E1 := (EC.out.keep KW.out).grown hgrow (SA.out.ne1 HR.out)
                  have x1 := E1.e1
                  have f1 := E1.f (i * 3 + 1)
                  have S1 := Hid.mk' hS1
                  clear hown hgrow hfr hown2 hS1 O5 C5 Z5 SA KW t1 EC E1
                  generalize hw2 : w1.setCell ⟨g, i * 3 + 1, none⟩ (.slice p7 (o + 1) c7) = w2 at S1
                  have hR2 : Hid ((G.set i ⟨ra, p7, o + 1, c7, O ++ [119], p2, n2, c2, N⟩)[i]? = some ⟨ra, p7, o + 1, c7, O ++ [119], p2, n2, c2, N⟩) := set_self HR.out
                  have GN2 : Hid ((G.set i ⟨ra, p7, o + 1, c7, O ++ [119], p2, n2, c2, N⟩).length = n) := by unfold Hid; rw [List.length_set]; exact GN.out
                  have GB2 : Hid (Bnd (i + 1) (G.set i ⟨ra, p7, o + 1, c7, O ++ [119], p2, n2, c2, N⟩)) := GB1.out.set (by omega)
                  have S1' : Hid (Sp w hi W0 w2 (rowF (.slice (some ⟨g, 0, none⟩) n c) (G.set i ⟨ra, p7, o + 1, c7, O ++ [119], p2, n2, c2, N⟩))) := S1
                  clear S1 GS HR GN GB1
                  generalize G.set i ⟨ra, p7, o + 1, c7, O ++ [119], p2, n2, c2, N⟩ = G2 at *
                  generalize O ++ [119] = O2 at *
                  obtain ⟨o2, ho2⟩ : ∃ o2, o2 = o + 1 := ⟨_, rfl⟩
                  have E2 := Hid.mk' (S1'.out.ec GN2.out hR2.out)
                  go_upto_region 16 with fail
                  try rw [hw2]
                  clear x1 f1 hw2
                  have KW : Hid (Below w2.heap.size w2 (w2.alloc (.cells (bv [120]).toArray 5))) := bAlloc (Below.refl _ _) _
                  have hSa := S1'.out.keep KW.out
                  have O5 : Hid ((w2.alloc (.cells (bv [120]).toArray 5)).ownsRow w.heap.size 5 1 (.slice p2 n2 c2) n2 (bv N)) := hSa.t2 hR2.out
                  have C5 : Hid (Srv (w2.alloc (.cells (bv [120]).toArray 5)) (.slice (some ⟨w2.heap.size, 0, none⟩) 1 1) 1 (bv [120])) := .inr ⟨_, 1, rfl, fun j u hj => lit_cells w2 _ 5 j u hj⟩
                  have Z5 : Hid (w.heap.size ≤ (w2.alloc (.cells (bv [120]).toArray 5)).heap.size) := hSa.rws.size
                  have t1 : w2.cell? ⟨g, i * 3 + 2, none⟩ = some (.slice p2 n2 c2) := E2.out.e2
                  have SA := Hid.mk' hSa
                  clear hSa
                  go_wp2_with (at_builtin; refine append_big rfl (.tmp 75) (.tmp 76) rfl w.heap.size (.slice p2 n2 c2) n2 (bv N) rfl O5.out (.slice (some ⟨w2.heap.size, 0, none⟩) 1 1) 1 (bv [120]) rfl C5.out rfl (bv_one _) (by omega) (by omega) Z5.out ?_)
                  intro v3 w3 hown hgrow hfr
                  obtain ⟨p8, c8, rfl⟩ := own_shape hown
                  have hown2 : w3.ownsRow w.heap.size 5 1 (.slice p8 (n2 + 1) c8) (n2 + 1) (bv (N ++ [120])) := by rw [bv_append]; exact hown
                  have hS1 := SA.out.app2 GN2.out hR2.out hgrow hown2 (by rcases hfr with e | ⟨q, e, hq⟩; exact .inl e; exact .inr ⟨q, e, by simpa using hq⟩)
                  have E1 := (E2.out.keep KW.out).grown hgrow (SA.out.ne2 hR2.out)
                  have x1 := E1.e2
                  have f1 := E1.f (i * 3 + 2)
                  have S1 := Hid.mk' hS1
                  clear hown hgrow hfr hown2 hS1 O5 C5 Z5 SA KW t1 E2 E1
                  go_wp2
                  go_roundg go3
                  case measure => omega
                  case rel => exact ⟨t + 1, _, _, by go_num, by omega, by unfold Hid; rw [List.length_set]; exact GN2.out, GB2.out.set (by omega), set_self hR2.out, ⟨by show o + 1 ≤ _; omega, by show n2 + 1 ≤ _; omega⟩, S1.out⟩
                · have hj1 : ¬ (t : Int) < 8 := by omega
                  have x0 : wr.cell? ⟨g, i * 3, none⟩ = some (.int .i64 ra) := EC.out.e0
                  have f0 := EC.out.f (i * 3)
                  have S2 := Hid.mk' (GS.out.place GN.out HR.out (-5))
                  clear hgo3 hjm hj EC
                  go_wp2
                  go_roundg go
                  case measure => omega
                  case rel => exact ⟨i + 1, _, by go_num, by omega, by unfold Hid; rw [List.length_set]; exact GN.out, GB1.out.set (by omega), S2.out⟩
    · have hi1 : ¬ (i : Int) < (n : Int) := by omega
      clear hgo him hi'
      go_wp2_with fail
      have OW := Hid.mk' (GS.out.list GN.out)
      have KP := Hid.mk' GS.out.kept
      have KB := Hid.mk' (GS.out.blk 0 _ rfl)
      have KZ := Hid.mk' GS.out.rws.size
      clear GS GB hi1
      go_loopg [0, 7] 8 (fun m x0 x7 wx => ∃ (t : Nat) (p : Option Addr) (c : Nat) (xs : List Er), x0 = .slice p (n + t) c ∧ x7 = .int .i64 (t : Int) ∧ t + m = 8 ∧ Hid (wx.ownsRow w.heap.size 38 3 (.slice p (n + t) c) (n + t) (ecs xs)) ∧ Hid (Kept w.heap.size hi W0 wx) ∧ Hid (∀ g, (Value.slice p (n + t) c).ownBlock = some g → g < hi ∨ W0.heap.size ≤ g) ∧ Hid (w.heap.size ≤ wx.heap.size))
      case atStart => exact ⟨0, p, c, G, rfl, rfl, by omega, OW.out, KP.out, KB.out, KZ.out⟩
      case round =>
        clear OW KP KB KZ GN
        obtain ⟨t, p, c, xs, rfl, rfl, htm, OW, KP, KB, KZ⟩ := hrel
        obtain ⟨go3, hgo3⟩ : ∃ g, g = gk - 1 := ⟨_, rfl⟩
        by_cases hj : t < 8
        · have hj1 : (t : Int) < 8 := by omega
          have hw4 : IntKind.i64.wrap ((t : Int) + 1) = ((t + 1 : Nat) : Int) := by rw [IntKind.wrap_i64]; omega
          obtain ⟨w5, hw5⟩ : ∃ w5, w5 = wr.alloc (.cells #[.int .i64 (-6), .slice none 0 0, .slice none 0 0] 38) := ⟨_, rfl⟩
          have B5 : Below wr.heap.size wr w5 := by rw [hw5]; exact bAlloc (Below.refl _ _) _
          obtain ⟨v', w7, hr7, ho7, hg7, hf7⟩ := app_ed w.heap.size _ _ _ (own_keep OW.out B5) ⟨wr.heap.size, 0, none⟩ ⟨-6, none, 0, 0, [], none, 0, 0, []⟩ (fun j u hj => by rw [hw5]; exact lit_cells wr _ 38 j u hj) (by omega) (Nat.le_trans KZ.out B5.size)
          obtain ⟨p7, c7, rfl⟩ := own_shape ho7
          have R7 := Hid.mk' hr7
          have OW7 : Hid (w7.ownsRow w.heap.size 38 3 (.slice p7 (n + (t + 1)) c7) (n + (t + 1)) (ecs (xs ++ [⟨-6, none, 0, 0, [], none, 0, 0, []⟩]))) := by unfold Hid; rw [ecs_snoc]; exact ho7
          have KP7 : Hid (Kept w.heap.size hi W0 w7) := (KP.out.new B5).grown hg7 (fun g hg => ⟨(OW.out.lt g hg).1, KB.out g hg⟩)
          have KB7 : Hid (∀ g, (Value.slice p7 (n + (t + 1)) c7).ownBlock = some g → g < hi ∨ W0.heap.size ≤ g) := fun g hg => by
            rcases hf7 with e | ⟨q, e, hq⟩
            · exact KB.out g (by rw [← e]; exact hg)
            · have hg' : (Value.slice p7 (n + t + 1) c7).ownBlock = some g := hg
              rw [e] at hg'
              injection hg' with hg'
              have := KP.out.size
              have := B5.size
              omega
          have KZ7 : Hid (w.heap.size ≤ w7.heap.size) := by unfold Hid; have := KZ.out; have := B5.size; have := hg7.size; omega
          clear hr7 ho7 hg7 hf7 B5 OW KP KB KZ hj
          go_wp2_with (at_builtin; rw [← hw5]; refine wl_ed rfl _ _ rfl _ _ rfl rfl (fun ty => R7.out ty _) ?_)
          go_roundg go3
          case measure => omega
          case rel => exact ⟨t + 1, p7, c7, _, rfl, by go_num, by omega, OW7.out, KP7.out, KB7.out, KZ7.out⟩
        · have hj1 : ¬ (t : Int) < 8 := by omega
          clear hgo3 htm hj
          go_wp2
          go_ret
          exact ⟨⟨n + t, rfl⟩, KP.out⟩
end Go.Proofs.Ythklmdnamkjgmaa
