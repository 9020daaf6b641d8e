/- Trees of pieces as plain data; how one lies in memory ('At'); the small questions that a node is asked. -/
import Derived.Test.YtmhpeppbhjpkiaaGreatRows
import Derived.WalkKit
import Derived.WalkSpells
import Derived.WalkLawsBesides
import Derived.Outline
import Derived.RegionTactic
import Derived.BigRegion
import Derived.Deep.RegionWith
import Derived.Deep.QuietTactic
import Derived.BigQuiet
import Derived.Deep.RegionHeld3
import Derived.Test.YtmhpeppbhjpkiaaGreatPm00
import Derived.Shelf.Abstract
import Derived.Shelf.RegionOpen
import Derived.OwnWalkIn
import Derived.TacticsInMore
import Derived.LoopNIn
import Derived.LoopIn
namespace Go.Proofs.YtmhpeppbhjpkiaaGreat
open Go.RowKit

/-- A piece: its span's Src, Off and Len, and its line ends. -/
structure Pc where
  s : Int
  o : Int
  l : Int
  n : Int

/-- A fit piece. -/
def Pc.fit (p : Pc) : Prop := 1 ≤ p.l ∧ p.l ≤ 2147483647 ∧ 0 ≤ p.n ∧ p.n ≤ p.l

/-- The piece as a value. -/
def Pc.v (p : Pc) : Value := .agg #[.int .i64 p.s, .int .i64 p.o, .int .i64 p.l, .int .i64 p.n]

/-- A tree: none, or a colour, a tree, a piece, a tree. -/
structure Tr where
  k : Option (Bool × Tr × Pc × Tr)
theorem Tr.el {motive : Tr → Prop} (t : Tr) (nil : motive (Tr.mk none)) (node : ∀ c l p r, motive (Tr.mk (some (c, l, p, r)))) : motive t :=
  match t with
  | Tr.mk none => nil
  | Tr.mk (some (c, l, p, r)) => node c l p r

theorem Tr.inj {c c' : Bool} {l l' : Tr} {p p' : Pc} {r r' : Tr} (h : Tr.mk (some (c, l, p, r)) = Tr.mk (some (c', l', p', r'))) : c = c' ∧ l = l' ∧ p = p' ∧ r = r' := by
  simpa using h

namespace Tr
def size : Tr → Nat
  | (Tr.mk none) => 0
  | (Tr.mk (some (_, l, _, r))) => l.size + 1 + r.size
def byt : Tr → Int
  | (Tr.mk none) => 0
  | (Tr.mk (some (_, l, p, r))) => l.byt + p.l + r.byt
def lin : Tr → Int
  | (Tr.mk none) => 0
  | (Tr.mk (some (_, l, p, r))) => l.lin + p.n + r.lin
def bh : Tr → Nat
  | (Tr.mk none) => 0
  | (Tr.mk (some (c, l, _, _))) => if c = true then l.bh else l.bh + 1
def ht : Tr → Nat
  | (Tr.mk none) => 0
  | (Tr.mk (some (_, l, _, r))) => 1 + max l.ht r.ht
def red : Tr → Bool
  | (Tr.mk none) => false
  | (Tr.mk (some (c, _, _, _))) => c
def has : Tr → Bool
  | (Tr.mk none) => false
  | (Tr.mk (some (_, _, _, _))) => true
def list : Tr → List Pc
  | (Tr.mk none) => []
  | (Tr.mk (some (_, l, p, r))) => l.list ++ p :: r.list
/-- all pieces are fit -/
def fits : Tr → Prop
  | (Tr.mk none) => True
  | (Tr.mk (some (_, l, p, r))) => l.fits ∧ p.fit ∧ r.fits
/-- fit, and not too many -/
def fine (t : Tr) : Prop := t.fits ∧ t.size ≤ 1048576
end Tr

theorem Tr.fits_bounds : ∀ (t : Tr), t.fits → 0 ≤ t.byt ∧ t.byt ≤ 2147483647 * (t.size : Int) ∧ 0 ≤ t.lin ∧ t.lin ≤ t.byt ∧ (t.size : Int) ≤ t.byt
  | (Tr.mk none), _ => by simp [Tr.byt, Tr.lin, Tr.size]
  | (Tr.mk (some (c, l, p, r))), h => by
    obtain ⟨h1, h2, h3⟩ := h
    have a := Tr.fits_bounds l h1
    have b := Tr.fits_bounds r h3
    unfold Pc.fit at h2
    simp only [Tr.byt, Tr.lin, Tr.size]
    push_cast
    omega
theorem Tr.ht_le : ∀ (t : Tr), t.ht ≤ t.size
  | (Tr.mk none) => by simp [Tr.ht, Tr.size]
  | (Tr.mk (some (c, l, p, r))) => by
    have a := Tr.ht_le l
    have b := Tr.ht_le r
    simp only [Tr.ht, Tr.size]
    omega
theorem Tr.bh_le : ∀ (t : Tr), t.bh ≤ t.size
  | (Tr.mk none) => by simp [Tr.bh, Tr.size]
  | (Tr.mk (some (c, l, p, r))) => by
    have a := Tr.bh_le l
    simp only [Tr.bh, Tr.size]
    split <;> omega
theorem Tr.fine.left {c : Bool} {l : Tr} {p : Pc} {r : Tr} (h : ((Tr.mk (some (c, l, p, r)))).fine) : l.fine := ⟨h.1.1, by have := h.2; simp only [Tr.size] at this; omega⟩
theorem Tr.fine.right {c : Bool} {l : Tr} {p : Pc} {r : Tr} (h : ((Tr.mk (some (c, l, p, r)))).fine) : r.fine := ⟨h.1.2.2, by have := h.2; simp only [Tr.size] at this; omega⟩
theorem Tr.fine.piece {c : Bool} {l : Tr} {p : Pc} {r : Tr} (h : ((Tr.mk (some (c, l, p, r)))).fine) : p.fit := h.1.2.1

/-- A node's block. -/
def nodeObj (c : Bool) (l : Tr) (p : Pc) (r : Tr) (la ra : Option Addr) : Obj :=
  .cells #[.int .i64 p.s, .int .i64 p.o, .int .i64 p.l, .int .i64 p.n, .bool c, .bool l.has, .bool r.has, .int .i64 (((Tr.mk (some (c, l, p, r)))).size : Nat), .int .i64 ((Tr.mk (some (c, l, p, r)))).byt, .int .i64 ((Tr.mk (some (c, l, p, r)))).lin, .pointer la, .pointer ra, .int .i64 (((Tr.mk (some (c, l, p, r)))).bh : Nat), .int .i64 (((Tr.mk (some (c, l, p, r)))).ht : Nat)] 168 (0, 0)

/-- The tree lies in w, its root at a. -/
def At (w : World) : Tr → Option Addr → Prop
  | (Tr.mk none), a => a = none
  | (Tr.mk (some (c, l, p, r))), a => ∃ b la ra, a = some ⟨b, 0, none⟩ ∧ w.heap[b]? = some (nodeObj c l p r la ra) ∧ At w l la ∧ At w r ra

theorem At.keep {w w' : World} (hb : Below w.heap.size w w') : ∀ {t : Tr} {a : Option Addr}, At w t a → At w' t a
  | (Tr.mk none), _, h => h
  | (Tr.mk (some (c, l, p, r))), _, ⟨b, la, ra, e, h, h1, h2⟩ => ⟨b, la, ra, e, by rw [hb.block b (Array.getElem?_eq_some_iff.1 h).1]; exact h, h1.keep hb, h2.keep hb⟩

theorem bAlloc {a w : World} (h : Below a.heap.size a w) (o : Obj) : Below a.heap.size a (w.alloc o) := h.alloc h.size o
theorem At.alloc {w : World} {t : Tr} {a : Option Addr} (h : At w t a) (x : Obj) : At (w.alloc x) t a := h.keep (bAlloc (Below.refl _ _) x)
theorem At.drew {w : World} {t : Tr} {a : Option Addr} (h : At w t a) : At w.drew t a := h.keep (Below.refl _ _).drew

/-- The node's cells, one by one. -/
structure NCells (w : World) (b : Nat) (c : Bool) (l : Tr) (p : Pc) (r : Tr) (la ra : Option Addr) : Prop where
  lt : b < w.heap.size
  c0 : w.cell? ⟨b, 0, none⟩ = some (.int .i64 p.s)
  c1 : w.cell? ⟨b, 1, none⟩ = some (.int .i64 p.o)
  c2 : w.cell? ⟨b, 2, none⟩ = some (.int .i64 p.l)
  c3 : w.cell? ⟨b, 3, none⟩ = some (.int .i64 p.n)
  c4 : w.cell? ⟨b, 4, none⟩ = some (.bool c)
  c5 : w.cell? ⟨b, 5, none⟩ = some (.bool l.has)
  c6 : w.cell? ⟨b, 6, none⟩ = some (.bool r.has)
  c7 : w.cell? ⟨b, 7, none⟩ = some (.int .i64 (((Tr.mk (some (c, l, p, r)))).size : Nat))
  c8 : w.cell? ⟨b, 8, none⟩ = some (.int .i64 ((Tr.mk (some (c, l, p, r)))).byt)
  c9 : w.cell? ⟨b, 9, none⟩ = some (.int .i64 ((Tr.mk (some (c, l, p, r)))).lin)
  c10 : w.cell? ⟨b, 10, none⟩ = some (.pointer la)
  c11 : w.cell? ⟨b, 11, none⟩ = some (.pointer ra)
  c12 : w.cell? ⟨b, 12, none⟩ = some (.int .i64 (((Tr.mk (some (c, l, p, r)))).bh : Nat))
  c13 : w.cell? ⟨b, 13, none⟩ = some (.int .i64 (((Tr.mk (some (c, l, p, r)))).ht : Nat))

theorem ncells {w : World} {b : Nat} {c : Bool} {l : Tr} {p : Pc} {r : Tr} {la ra : Option Addr} (h : w.heap[b]? = some (nodeObj c l p r la ra)) : NCells w b c l p r la ra := by
  have e := fun j => cell_of_row w b j _ 168 (0, 0) h
  refine ⟨(Array.getElem?_eq_some_iff.1 h).1, ?_, ?_, ?_, ?_, ?_, ?_, ?_, ?_, ?_, ?_, ?_, ?_, ?_, ?_⟩ <;> (rw [e]; rfl)

set_option maxHeartbeats 400000 in
theorem pieces_any (t : Tr) (a : Option Addr) (w : World) (h : Hid (At w t a)) :
    Calls Tryz.prog 86 #[.pointer a] w fun e w' => e = .returned (.int .i64 (t.size : Nat)) ∧ w' = w := by
  cases t using Tr.el with
  | nil => have e := h.out; simp only [At] at e; subst e; clear h; go_enter Tryz.func86, Tryz.ntmps86; go_wp2; go_ret; exact ⟨rfl, rfl⟩
  | node c l p r =>
    obtain ⟨b, la, ra, rfl, hb, -, -⟩ := h.out; have c7 := (ncells hb).c7; clear h hb
    go_enter Tryz.func86, Tryz.ntmps86; go_wp2; go_ret; exact ⟨rfl, rfl⟩
set_option maxHeartbeats 400000 in
theorem bytes_any (t : Tr) (a : Option Addr) (w : World) (h : Hid (At w t a)) :
    Calls Tryz.prog 106 #[.pointer a] w fun e w' => e = .returned (.int .i64 t.byt) ∧ w' = w := by
  cases t using Tr.el with
  | nil => have e := h.out; simp only [At] at e; subst e; clear h; go_enter Tryz.func106, Tryz.ntmps106; go_wp2; go_ret; exact ⟨rfl, rfl⟩
  | node c l p r =>
    obtain ⟨b, la, ra, rfl, hb, -, -⟩ := h.out; have c7 := (ncells hb).c8; clear h hb
    go_enter Tryz.func106, Tryz.ntmps106; go_wp2; go_ret; exact ⟨rfl, rfl⟩
set_option maxHeartbeats 400000 in
theorem lines_any (t : Tr) (a : Option Addr) (w : World) (h : Hid (At w t a)) :
    Calls Tryz.prog 108 #[.pointer a] w fun e w' => e = .returned (.int .i64 t.lin) ∧ w' = w := by
  cases t using Tr.el with
  | nil => have e := h.out; simp only [At] at e; subst e; clear h; go_enter Tryz.func108, Tryz.ntmps108; go_wp2; go_ret; exact ⟨rfl, rfl⟩
  | node c l p r =>
    obtain ⟨b, la, ra, rfl, hb, -, -⟩ := h.out; have c7 := (ncells hb).c9; clear h hb
    go_enter Tryz.func108, Tryz.ntmps108; go_wp2; go_ret; exact ⟨rfl, rfl⟩
set_option maxHeartbeats 400000 in
theorem height_any (t : Tr) (a : Option Addr) (w : World) (h : Hid (At w t a)) :
    Calls Tryz.prog 120 #[.pointer a] w fun e w' => e = .returned (.int .i64 (t.ht : Nat)) ∧ w' = w := by
  cases t using Tr.el with
  | nil => have e := h.out; simp only [At] at e; subst e; clear h; go_enter Tryz.func120, Tryz.ntmps120; go_wp2; go_ret; exact ⟨rfl, rfl⟩
  | node c l p r =>
    obtain ⟨b, la, ra, rfl, hb, -, -⟩ := h.out; have c7 := (ncells hb).c13; clear h hb
    go_enter Tryz.func120, Tryz.ntmps120; go_wp2; go_ret; exact ⟨rfl, rfl⟩
set_option maxHeartbeats 400000 in
theorem black_any (t : Tr) (a : Option Addr) (w : World) (h : Hid (At w t a)) :
    Calls Tryz.prog 89 #[.pointer a] w fun e w' => e = .returned (.int .i64 (t.bh : Nat)) ∧ w' = w := by
  cases t using Tr.el with
  | nil => have e := h.out; simp only [At] at e; subst e; clear h; go_enter Tryz.func89, Tryz.ntmps89; go_wp2; go_ret; exact ⟨rfl, rfl⟩
  | node c l p r =>
    obtain ⟨b, la, ra, rfl, hb, -, -⟩ := h.out; have c7 := (ncells hb).c12; clear h hb
    go_enter Tryz.func89, Tryz.ntmps89; go_wp2; go_ret; exact ⟨rfl, rfl⟩
set_option maxHeartbeats 400000 in
theorem isRed_any (t : Tr) (a : Option Addr) (w : World) (h : Hid (At w t a)) :
    Calls Tryz.prog 121 #[.pointer a] w fun e w' => e = .returned (.bool t.red) ∧ w' = w := by
  cases t using Tr.el with
  | nil => have e := h.out; simp only [At] at e; subst e; clear h; go_enter Tryz.func121, Tryz.ntmps121; go_wp2; go_ret; exact ⟨rfl, rfl⟩
  | node c l p r =>
    obtain ⟨b, la, ra, rfl, hb, -, -⟩ := h.out; have c7 := (ncells hb).c4; clear h hb
    go_enter Tryz.func121, Tryz.ntmps121; go_wp2; go_ret; exact ⟨rfl, rfl⟩
end Go.Proofs.YtmhpeppbhjpkiaaGreat

/- Trees of pieces as plain data: joining, splitting, building; that all trees so made are red-black and hold the lists that they should. -/
namespace Go.Proofs.YtmhpeppbhjpkiaaGreat
open Go.RowKit

namespace Tr
theorem size_list : ∀ t : Tr, t.list.length = t.size
  | (Tr.mk none) => rfl
  | (Tr.mk (some (c, l, p, r))) => by simp only [list, size, List.length_append, List.length_cons, size_list l, size_list r]; omega
theorem fits_list : ∀ t : Tr, t.fits ↔ ∀ p ∈ t.list, p.fit
  | (Tr.mk none) => by simp [fits, list]
  | (Tr.mk (some (c, l, p, r))) => by
    simp only [fits, list, fits_list l, fits_list r, List.mem_append, List.mem_cons]
    constructor
    · rintro ⟨h1, h2, h3⟩ q (h | rfl | h)
      · exact h1 q h
      · exact h2
      · exact h3 q h
    · intro h
      exact ⟨fun q hq => h q (.inl hq), h p (.inr (.inl rfl)), fun q hq => h q (.inr (.inr hq))⟩
theorem fine_list (t : Tr) : t.fine ↔ (∀ p ∈ t.list, p.fit) ∧ t.list.length ≤ 1048576 := by
  unfold fine; rw [fits_list, size_list]

/-- the root made black -/
def blk : Tr → Tr
  | (Tr.mk (some (true, l, p, r))) => (Tr.mk (some (false, l, p, r)))
  | t => t
theorem blk_list (t : Tr) : t.blk.list = t.list := by
  cases t using Tr.el with
  | nil => rfl
  | node c l p r => cases c <;> rfl
theorem blk_red (t : Tr) : t.blk.red = false := by
  cases t using Tr.el with
  | nil => rfl
  | node c l p r => cases c <;> rfl
theorem blk_black {t : Tr} (h : t.red = false) : t.blk = t := by
  cases t using Tr.el with
  | nil => rfl
  | node c l p r => cases c with
    | false => rfl
    | true => simp [red] at h

/-- a (Tr.mk (some (above, a, tree, m))) on its right, two reds put straight -/
def fixR (c : Bool) (a : Tr) (q : Pc) (m : Tr) : Tr :=
  match c, m with
  | false, (Tr.mk (some (true, x, s, ((Tr.mk (some (true, y, t, z))))))) => (Tr.mk (some (true, ((Tr.mk (some (false, a, q, x)))), s, ((Tr.mk (some (false, y, t, z)))))))
  | c, m => (Tr.mk (some (c, a, q, m)))
def fixL (c : Bool) (m : Tr) (q : Pc) (b : Tr) : Tr :=
  match c, m with
  | false, (Tr.mk (some (true, ((Tr.mk (some (true, y, t, z)))), s, x))) => (Tr.mk (some (true, ((Tr.mk (some (false, y, t, z)))), s, ((Tr.mk (some (false, x, q, b)))))))
  | c, m => (Tr.mk (some (c, m, q, b)))
def jr (p : Pc) (r : Tr) : Tr → Tr
  | (Tr.mk none) => (Tr.mk (some (true, (Tr.mk none), p, r)))
  | (Tr.mk (some (c, a, q, b))) => if c = false ∧ ((Tr.mk (some (c, a, q, b)))).bh = r.bh then (Tr.mk (some (true, ((Tr.mk (some (c, a, q, b)))), p, r))) else fixR c a q (jr p r b)
def jl (l : Tr) (p : Pc) : Tr → Tr
  | (Tr.mk none) => (Tr.mk (some (true, l, p, (Tr.mk none))))
  | (Tr.mk (some (c, a, q, b))) => if c = false ∧ l.bh = ((Tr.mk (some (c, a, q, b)))).bh then (Tr.mk (some (true, l, p, ((Tr.mk (some (c, a, q, b))))))) else fixL c (jl l p a) q b
def joinT (l : Tr) (p : Pc) (r : Tr) : Tr :=
  if l.bh = r.bh then (Tr.mk (some (false, l, p, r))) else if r.bh < l.bh then (jr p r l).blk else (jl l p r).blk

theorem fixR_list (c : Bool) (a : Tr) (q : Pc) (m : Tr) : (fixR c a q m).list = a.list ++ q :: m.list := by
  unfold fixR; split <;> simp [list]
theorem fixL_list (c : Bool) (m : Tr) (q : Pc) (b : Tr) : (fixL c m q b).list = m.list ++ q :: b.list := by
  unfold fixL; split <;> simp [list]
theorem jr_list (p : Pc) (r : Tr) : ∀ l : Tr, (jr p r l).list = l.list ++ p :: r.list
  | (Tr.mk none) => by simp [jr, list]
  | (Tr.mk (some (c, a, q, b))) => by
    simp only [jr]; split
    · rfl
    · rw [fixR_list, jr_list p r b]; simp [list]
theorem jl_list (l : Tr) (p : Pc) : ∀ r : Tr, (jl l p r).list = l.list ++ p :: r.list
  | (Tr.mk none) => by simp [jl, list]
  | (Tr.mk (some (c, a, q, b))) => by
    simp only [jl]; split
    · rfl
    · rw [fixL_list, jl_list l p a]; simp [list]
theorem joinT_list (l : Tr) (p : Pc) (r : Tr) : (joinT l p r).list = l.list ++ p :: r.list := by
  unfold joinT; split
  · rfl
  · split
    · rw [blk_list, jr_list]
    · rw [blk_list, jl_list]

/-- red-black, whatever the root's colour -/
def bal : Tr → Prop
  | (Tr.mk none) => True
  | (Tr.mk (some (c, l, _, r))) => l.bal ∧ r.bal ∧ l.bh = r.bh ∧ (c = true → l.red = false ∧ r.red = false)
def whole (t : Tr) : Prop := t.bal ∧ t.red = false

theorem blk_whole {t : Tr} (h : t.bal) : t.blk.whole := by
  refine ⟨?_, blk_red t⟩
  cases t using Tr.el with
  | nil => trivial
  | node c l p r => cases c with
    | false => exact h
    | true => exact ⟨h.1, h.2.1, h.2.2.1, by simp⟩

/-- what jr makes of a red-black tree -/
def outR (l m : Tr) : Prop := m.bh = l.bh ∧ (l.red = false → m.bal) ∧ (l.red = true → ∃ a q b, m = (Tr.mk (some (true, a, q, b))) ∧ a.bal ∧ b.bal ∧ a.bh = b.bh ∧ a.red = false)
def outL (r m : Tr) : Prop := m.bh = r.bh ∧ (r.red = false → m.bal) ∧ (r.red = true → ∃ a q b, m = (Tr.mk (some (true, a, q, b))) ∧ a.bal ∧ b.bal ∧ a.bh = b.bh ∧ b.red = false)

theorem fixR_out {a b m : Tr} {q : Pc} (ha : a.bal) (hab : a.bh = b.bh) (h : outR b m) : (fixR false a q m).bal ∧ (fixR false a q m).bh = a.bh + 1 := by
  obtain ⟨h0, h1, h2⟩ := h
  match m, h0, h1, h2 with
  | (Tr.mk (some (true, x, s, ((Tr.mk (some (true, y, t, z))))))), h0, h1, h2 =>
    have hx : x.bal ∧ ((Tr.mk (some (true, y, t, z)))).bal ∧ x.bh = ((Tr.mk (some (true, y, t, z)))).bh := by
      cases hb : b.red with
      | false => exact absurd ((h1 hb).2.2.2 rfl).2 (by simp [red])
      | true =>
        obtain ⟨a', q', b', e, p1, p2, p3, -⟩ := h2 hb
        obtain ⟨-, e1, -, e2⟩ := Tr.inj e; subst e1 e2; exact ⟨p1, p2, p3⟩
    obtain ⟨x1, x2, x3⟩ := hx
    simp only [fixR, bal, bh, red] at *
    simp at *
    refine ⟨⟨ha, x1, by omega⟩, ⟨x2.1, x2.2.1, x2.2.2.1⟩, by omega⟩
  | (Tr.mk none), h0, h1, h2 =>
    simp only [fixR, bal, bh, red] at *
    simp at *
    exact ⟨ha, by omega⟩
  | (Tr.mk (some (false, x, s, y))), h0, h1, h2 =>
    have hm : ((Tr.mk (some (false, x, s, y)))).bal := by
      cases hb : b.red with
      | false => exact h1 hb
      | true => obtain ⟨a', q', b', e, -⟩ := h2 hb; exact absurd (Tr.inj e).1 (by simp)
    have e : fixR false a q ((Tr.mk (some (false, x, s, y)))) = (Tr.mk (some (false, a, q, ((Tr.mk (some (false, x, s, y))))))) := by cases y <;> rfl
    rw [e]
    exact ⟨⟨ha, hm, by omega, by simp⟩, by simp [bh]⟩
  | (Tr.mk (some (true, x, s, (Tr.mk none)))), h0, h1, h2 =>
    have hm : ((Tr.mk (some (true, x, s, (Tr.mk none))))).bal := by
      cases hb : b.red with
      | false => exact h1 hb
      | true => obtain ⟨a', q', b', e, p1, p2, p3, p4⟩ := h2 hb; obtain ⟨-, e1, -, e2⟩ := Tr.inj e; subst e1 e2; exact ⟨p1, p2, p3, fun _ => ⟨p4, rfl⟩⟩
    exact ⟨⟨ha, hm, by omega, by simp⟩, by simp [fixR, bh]⟩
  | (Tr.mk (some (true, x, s, ((Tr.mk (some (false, y, t, z))))))), h0, h1, h2 =>
    have hm : ((Tr.mk (some (true, x, s, ((Tr.mk (some (false, y, t, z)))))))).bal := by
      cases hb : b.red with
      | false => exact h1 hb
      | true => obtain ⟨a', q', b', e, p1, p2, p3, p4⟩ := h2 hb; obtain ⟨-, e1, -, e2⟩ := Tr.inj e; subst e1 e2; exact ⟨p1, p2, p3, fun _ => ⟨p4, rfl⟩⟩
    exact ⟨⟨ha, hm, by omega, by simp⟩, by simp [fixR, bh]⟩

theorem fixL_out {a b m : Tr} {q : Pc} (hb' : b.bal) (hab : a.bh = b.bh) (h : outL a m) : (fixL false m q b).bal ∧ (fixL false m q b).bh = b.bh + 1 := by
  obtain ⟨h0, h1, h2⟩ := h
  match m, h0, h1, h2 with
  | (Tr.mk (some (true, ((Tr.mk (some (true, y, t, z)))), s, x))), h0, h1, h2 =>
    have hx : ((Tr.mk (some (true, y, t, z)))).bal ∧ x.bal ∧ ((Tr.mk (some (true, y, t, z)))).bh = x.bh := by
      cases hb : a.red with
      | false => exact absurd ((h1 hb).2.2.2 rfl).1 (by simp [red])
      | true =>
        obtain ⟨a', q', b', e, p1, p2, p3, -⟩ := h2 hb
        obtain ⟨-, e1, -, e2⟩ := Tr.inj e; subst e1 e2; exact ⟨p1, p2, p3⟩
    obtain ⟨x1, x2, x3⟩ := hx
    simp only [fixL, bal, bh, red] at *
    simp at *
    refine ⟨⟨⟨x1.1, x1.2.1, x1.2.2.1⟩, ⟨x2, hb', by omega⟩, by omega⟩, by omega⟩
  | (Tr.mk none), h0, h1, h2 =>
    simp only [fixL, bal, bh, red] at *
    simp at *
    exact ⟨⟨hb', by omega⟩, by omega⟩
  | (Tr.mk (some (false, x, s, y))), h0, h1, h2 =>
    have hm : ((Tr.mk (some (false, x, s, y)))).bal := by
      cases hb : a.red with
      | false => exact h1 hb
      | true => obtain ⟨a', q', b', e, -⟩ := h2 hb; exact absurd (Tr.inj e).1 (by simp)
    have e : fixL false ((Tr.mk (some (false, x, s, y)))) q b = (Tr.mk (some (false, ((Tr.mk (some (false, x, s, y)))), q, b))) := by cases x <;> rfl
    rw [e]
    refine ⟨⟨hm, hb', by omega, by simp⟩, ?_⟩
    simp only [bh] at *; simp at *; omega
  | (Tr.mk (some (true, (Tr.mk none), s, x))), h0, h1, h2 =>
    have hm : ((Tr.mk (some (true, (Tr.mk none), s, x)))).bal := by
      cases hb : a.red with
      | false => exact h1 hb
      | true => obtain ⟨a', q', b', e, p1, p2, p3, p4⟩ := h2 hb; obtain ⟨-, e1, -, e2⟩ := Tr.inj e; subst e1 e2; exact ⟨p1, p2, p3, fun _ => ⟨rfl, p4⟩⟩
    refine ⟨⟨hm, hb', by omega, by simp⟩, ?_⟩
    simp only [fixL, bh] at *; simp at *; omega
  | (Tr.mk (some (true, ((Tr.mk (some (false, y, t, z)))), s, x))), h0, h1, h2 =>
    have hm : ((Tr.mk (some (true, ((Tr.mk (some (false, y, t, z)))), s, x)))).bal := by
      cases hb : a.red with
      | false => exact h1 hb
      | true => obtain ⟨a', q', b', e, p1, p2, p3, p4⟩ := h2 hb; obtain ⟨-, e1, -, e2⟩ := Tr.inj e; subst e1 e2; exact ⟨p1, p2, p3, fun _ => ⟨rfl, p4⟩⟩
    refine ⟨⟨hm, hb', by omega, by simp⟩, ?_⟩
    simp only [fixL, bh] at *; simp at *; omega

theorem fixR_true (a : Tr) (q : Pc) (m : Tr) : fixR true a q m = (Tr.mk (some (true, a, q, m))) := by unfold fixR; rfl
theorem fixL_true (m : Tr) (q : Pc) (b : Tr) : fixL true m q b = (Tr.mk (some (true, m, q, b))) := by unfold fixL; rfl

theorem jr_out (p : Pc) {r : Tr} (hr : r.bal) (hred : r.red = false) : ∀ l : Tr, l.bal → r.bh ≤ l.bh → outR l (jr p r l)
  | (Tr.mk none), _, h => by
    simp only [jr, outR, bal, bh, red] at *
    simp
    exact ⟨hr, by omega, hred⟩
  | (Tr.mk (some (false, a, q, b))), ⟨h1, h2, h3, _⟩, h => by
    simp only [jr]
    split
    · rename_i hc
      refine ⟨by simp [bh], fun _ => ⟨⟨h1, h2, h3, by simp⟩, hr, hc.2, fun _ => ⟨rfl, hred⟩⟩, by simp [red]⟩
    · rename_i hc
      have hb : r.bh ≤ b.bh := by simp [bh] at h hc; omega
      have k := fixR_out (q := q) h1 h3 (jr_out p hr hred b h2 hb)
      refine ⟨by rw [k.2]; simp [bh], fun _ => k.1, by simp [red]⟩
  | (Tr.mk (some (true, a, q, b))), ⟨h1, h2, h3, h4⟩, h => by
    simp only [jr]
    rw [if_neg (by simp), fixR_true]
    have hb : r.bh ≤ b.bh := by simp [bh] at h; omega
    obtain ⟨k1, k2, -⟩ := jr_out p hr hred b h2 hb
    refine ⟨by simp [bh], by simp [red], fun _ => ⟨a, q, _, rfl, h1, k2 (h4 rfl).2, by omega, (h4 rfl).1⟩⟩

theorem jl_out (p : Pc) {l : Tr} (hl : l.bal) (hred : l.red = false) : ∀ r : Tr, r.bal → l.bh ≤ r.bh → outL r (jl l p r)
  | (Tr.mk none), _, h => by
    simp only [jl, outL, bal, bh, red] at *
    simp
    exact ⟨by omega, hl, by omega, hred⟩
  | (Tr.mk (some (false, a, q, b))), ⟨h1, h2, h3, _⟩, h => by
    simp only [jl]
    split
    · rename_i hc
      refine ⟨by have := hc.2; simp [bh] at this ⊢; omega, fun _ => ⟨hl, ⟨h1, h2, h3, by simp⟩, hc.2, fun _ => ⟨hred, rfl⟩⟩, by simp [red]⟩
    · rename_i hc
      have hb : l.bh ≤ a.bh := by simp [bh] at h hc; omega
      have k := fixL_out (q := q) h2 h3 (jl_out p hl hred a h1 hb)
      refine ⟨by rw [k.2]; simp [bh]; omega, fun _ => k.1, by simp [red]⟩
  | (Tr.mk (some (true, a, q, b))), ⟨h1, h2, h3, h4⟩, h => by
    simp only [jl]
    rw [if_neg (by simp), fixL_true]
    have hb : l.bh ≤ a.bh := by simp [bh] at h; omega
    obtain ⟨k1, k2, -⟩ := jl_out p hl hred a h1 hb
    refine ⟨by simp [bh]; omega, by simp [red], fun _ => ⟨_, q, b, rfl, k2 (h4 rfl).1, h2, by omega, (h4 rfl).2⟩⟩

theorem joinT_whole {l r : Tr} (p : Pc) (hl : l.whole) (hr : r.whole) : (joinT l p r).whole := by
  unfold joinT; split
  · rename_i h; exact ⟨⟨hl.1, hr.1, h, by simp⟩, rfl⟩
  · split
    · exact blk_whole ((jr_out p hr.1 hr.2 l hl.1 (by omega)).2.1 hl.2)
    · exact blk_whole ((jl_out p hl.1 hl.2 r hr.1 (by omega)).2.1 hr.2)

/-- the first k pieces, and the others -/
def splitT : Tr → Nat → Tr × Tr
  | (Tr.mk none), _ => ((Tr.mk none), (Tr.mk none))
  | (Tr.mk (some (_, l, p, r))), k =>
    if k ≤ l.size then ((splitT l k).1, joinT (splitT l k).2 p r.blk) else (joinT l.blk p (splitT r (k - l.size - 1)).1, (splitT r (k - l.size - 1)).2)
theorem splitT_whole : ∀ (t : Tr) (k : Nat), t.bal → (splitT t k).1.whole ∧ (splitT t k).2.whole
  | (Tr.mk none), k, _ => by simp [splitT, whole, bal, red]
  | (Tr.mk (some (c, l, p, r))), k, h => by
    simp only [splitT]; split
    · have i := splitT_whole l k h.1; exact ⟨i.1, joinT_whole p i.2 (blk_whole h.2.1)⟩
    · have i := splitT_whole r (k - l.size - 1) h.2.1; exact ⟨joinT_whole p (blk_whole h.1) i.1, i.2⟩
theorem splitT_list : ∀ (t : Tr) (k : Nat), (splitT t k).1.list = t.list.take k ∧ (splitT t k).2.list = t.list.drop k
  | (Tr.mk none), k => by simp [splitT, list]
  | (Tr.mk (some (c, l, p, r))), k => by
    simp only [splitT]; split
    · rename_i hk
      have i := splitT_list l k
      have z := size_list l
      refine ⟨?_, ?_⟩
      · simp only [list]; rw [i.1, List.take_append_of_le_length (by omega)]
      · simp only [list]; rw [joinT_list, i.2, blk_list, List.drop_append_of_le_length (by omega)]
    · rename_i hk
      have i := splitT_list r (k - l.size - 1)
      have z := size_list l
      have e : k = l.list.length + ((k - l.size - 1) + 1) := by omega
      refine ⟨?_, ?_⟩
      · simp only [list]; rw [joinT_list, i.1, blk_list]; conv => rhs; rw [e, List.take_length_add_append, List.take_succ_cons]
      · simp only [list]; rw [i.2]; conv => rhs; rw [e, List.drop_length_add_append, List.drop_succ_cons]

/-- l and r with nothing between -/
def gluT (l r : Tr) : Tr :=
  match l, r with
  | (Tr.mk none), r => r
  | l, (Tr.mk none) => l
  | l, r => match l.list[l.size - 1]? with
    | some p => joinT (splitT l (l.size - 1)).1 p r
    | none => (Tr.mk none)

/-- a tree of a list, so many steps deep -/
def buildF : Nat → List Pc → Tr
  | 0, _ => (Tr.mk none)
  | f + 1, l =>
    match l[l.length / 2]? with
    | none => (Tr.mk none)
    | some p => joinT (buildF f (l.take (l.length / 2))) p (buildF f (l.drop (l.length / 2 + 1)))
/-- a tree of a list -/
def buildT (l : List Pc) : Tr := buildF l.length l

theorem buildF_nil : ∀ f, buildF f [] = (Tr.mk none)
  | 0 => rfl
  | _ + 1 => rfl
theorem buildF_any (f : Nat) : ∀ (g : Nat) (l : List Pc), l.length ≤ f → l.length ≤ g → buildF f l = buildF g l := by
  induction f with
  | zero => intro g l h _; have : l = [] := List.eq_nil_of_length_eq_zero (by omega); subst this; rw [buildF_nil, buildF_nil]
  | succ f ih =>
    intro g l h1 h2
    cases g with
    | zero => have : l = [] := List.eq_nil_of_length_eq_zero (by omega); subst this; rw [buildF_nil, buildF_nil]
    | succ g =>
      simp only [buildF]
      cases hl : l[l.length / 2]? with
      | none => rfl
      | some p =>
        have hlt := (List.getElem?_eq_some_iff.1 hl).1
        simp only
        rw [ih g (l.take (l.length / 2)) (by simp only [List.length_take]; omega) (by simp only [List.length_take]; omega), ih g (l.drop (l.length / 2 + 1)) (by simp only [List.length_drop]; omega) (by simp only [List.length_drop]; omega)]
theorem buildT_nil : buildT [] = (Tr.mk none) := rfl
theorem buildT_some {l : List Pc} {p : Pc} (h : l[l.length / 2]? = some p) : buildT l = joinT (buildT (l.take (l.length / 2))) p (buildT (l.drop (l.length / 2 + 1))) := by
  have hlt := (List.getElem?_eq_some_iff.1 h).1
  obtain ⟨n, hn⟩ : ∃ n, l.length = n + 1 := ⟨l.length - 1, by omega⟩
  have e : buildT l = joinT (buildF n (l.take (l.length / 2))) p (buildF n (l.drop (l.length / 2 + 1))) := by
    unfold buildT
    conv => lhs; rw [hn]
    simp only [buildF, h]
  rw [e]
  unfold buildT
  rw [buildF_any n (l.take (l.length / 2)).length _ (by simp only [List.length_take]; omega) (Nat.le_refl _), buildF_any n (l.drop (l.length / 2 + 1)).length _ (by simp only [List.length_drop]; omega) (Nat.le_refl _)]

theorem buildT_ok (n : Nat) : ∀ l : List Pc, l.length ≤ n → (buildT l).whole ∧ (buildT l).list = l := by
  induction n with
  | zero => intro l h; have : l = [] := List.eq_nil_of_length_eq_zero (by omega); subst this; rw [buildT_nil]; exact ⟨⟨trivial, rfl⟩, rfl⟩
  | succ n ih =>
    intro l h
    rcases hl : l[l.length / 2]? with _ | p
    · have := List.getElem?_eq_none_iff.1 hl
      have : l = [] := List.eq_nil_of_length_eq_zero (by omega); subst this; rw [buildT_nil]; exact ⟨⟨trivial, rfl⟩, rfl⟩
    · have hlt := (List.getElem?_eq_some_iff.1 hl).1
      rw [buildT_some hl]
      obtain ⟨a1, a2⟩ := ih (l.take (l.length / 2)) (by simp only [List.length_take]; omega)
      obtain ⟨b1, b2⟩ := ih (l.drop (l.length / 2 + 1)) (by simp only [List.length_drop]; omega)
      refine ⟨joinT_whole p a1 b1, ?_⟩
      rw [joinT_list, a2, b2]
      have e := (List.getElem?_eq_some_iff.1 hl).2
      conv => rhs; rw [← List.take_append_drop (l.length / 2) l, List.drop_eq_getElem_cons hlt, e]

theorem gluT_list (l r : Tr) : (gluT l r).list = l.list ++ r.list := by
  unfold gluT
  split
  · simp [list]
  · simp [list]
  · rename_i h1 h2
    have z := size_list l
    have hs : 0 < l.size := by cases l using Tr.el with
      | nil => exact absurd rfl h1
      | node c a q b => simp only [size]; omega
    rcases hl : l.list[l.size - 1]? with _ | p
    · have := List.getElem?_eq_none_iff.1 hl; omega
    · simp only
      rw [joinT_list, (splitT_list l _).1]
      have e := (List.getElem?_eq_some_iff.1 hl)
      have e1 : l.list = l.list.take (l.size - 1) ++ [p] := by
        conv => lhs; rw [← List.take_append_drop (l.size - 1) l.list, List.drop_eq_getElem_cons (by omega), e.2, List.drop_of_length_le (by omega)]
      conv => rhs; rw [e1]
      simp
theorem gluT_whole {l r : Tr} (hl : l.whole) (hr : r.whole) : (gluT l r).whole := by
  unfold gluT
  split
  · exact hr
  · exact hl
  · split
    · exact joinT_whole _ (splitT_whole l _ hl.1).1 hr
    · exact ⟨trivial, rfl⟩

/-! ### How high -/
theorem bal_size : ∀ t : Tr, t.bal → 2 ^ t.bh ≤ t.size + 1
  | (Tr.mk none), _ => by simp [bh, size]
  | (Tr.mk (some (c, l, p, r))), ⟨h1, h2, h3, _⟩ => by
    have a := bal_size l h1
    have b := bal_size r h2
    rw [← h3] at b
    simp only [bh, size]
    split
    · omega
    · rw [Nat.pow_succ]; omega
theorem bal_ht : ∀ t : Tr, t.bal → t.ht ≤ 2 * t.bh + (if t.red = true then 1 else 0)
  | (Tr.mk none), _ => by simp [ht]
  | (Tr.mk (some (c, l, p, r))), ⟨h1, h2, h3, h4⟩ => by
    have a := bal_ht l h1
    have b := bal_ht r h2
    rw [← h3] at b
    simp only [ht, bh, red]
    cases c with
    | true => simp [h4 rfl] at a b ⊢; omega
    | false =>
      simp only [Bool.false_eq_true, if_false]
      have a' : l.ht ≤ 2 * l.bh + 1 := by split at a <;> omega
      have b' : r.ht ≤ 2 * l.bh + 1 := by split at b <;> omega
      omega
theorem whole_low {t : Tr} (h : t.whole) : 2 ^ t.ht ≤ (t.size + 1) * (t.size + 1) := by
  have a := bal_size t h.1
  have b := bal_ht t h.1
  rw [h.2] at b
  simp at b
  calc 2 ^ t.ht ≤ 2 ^ (2 * t.bh) := Nat.pow_le_pow_right (by omega) b
    _ = 2 ^ t.bh * 2 ^ t.bh := by rw [Nat.two_mul, Nat.pow_add]
    _ ≤ _ := Nat.mul_le_mul a a
end Tr
end Go.Proofs.YtmhpeppbhjpkiaaGreat

/- All of a tree, as an iterator: its pieces in order, each with its place. Conditions: the tree lies in memory and stays there. -/
namespace Go.Proofs.YtmhpeppbhjpkiaaGreat
open Go.RowKit Go.Shelf
attribute [local go_sem] Oper.semAt_some

theorem hid {p : Prop} (h : p) : Hid p := h

theorem At.same {w w' : World} (hb : ∀ k, k < w.heap.size → w'.heap[k]? = w.heap[k]?) : ∀ {t : Tr} {a : Option Addr}, At w t a → At w' t a
  | (Tr.mk none), _, h => h
  | (Tr.mk (some (c, l, p, r))), _, ⟨b, la, ra, e, h, h1, h2⟩ => ⟨b, la, ra, e, by rw [hb b (Array.getElem?_eq_some_iff.1 h).1]; exact h, h1.same hb, h2.same hb⟩

/-- What the iterator keeps of the world in which the tree lay: what lay at the places N. -/
def Lay (N : Nat → Prop) (w0 W : World) : Prop := ∀ k, k < w0.heap.size → N k → W.heap[k]? = w0.heap[k]?
theorem Lay.rnd {N : Nat → Prop} {w0 W W' : World} {lo hi : Nat} (h : Lay N w0 W) (hs : w0.heap.size ≤ W.heap.size) (hr : Rnd N lo hi W W') : Lay N w0 W' :=
  fun k hk hN => (hr.block k (by omega) (.inl hN)).trans (h k hk hN)

/-- The state between two rounds. -/
structure St (N : Nat → Prop) (J : List Pc → World → Prop) (w0 : World) (l lo : Nat) (pre : List Pc) (W : World) : Prop where
  j : J pre W
  yb : W.heap[lo]? = some (.cells #[.func (.yield l) #[] #[]] 139 (0, 0))
  pb : W.heap[lo + 1]? = some (.cells #[.int .i64 (pre.length : Int)] 3 (0, 0))
  le : w0.heap.size ≤ lo
  lay : Lay N w0 W

theorem St.lt {N : Nat → Prop} {J : List Pc → World → Prop} {w0 : World} {l lo : Nat} {pre : List Pc} {W : World} (h : St N J w0 l lo pre W) : lo + 1 < W.heap.size := (Array.getElem?_eq_some_iff.1 h.pb).1

/-- What a call of yield gives. -/
def Yd (N : Nat → Prop) (J Jx : List Pc → World → Prop) (l lo : Nat) (xs : List Pc) : Prop :=
  ∀ m pre x W1, J pre W1 → lo + 2 ≤ W1.heap.size → pre ++ [x] <+: xs → YieldAt Fence.wide m Tryz.prog l #[.int .i64 (pre.length : Int), x.v] W1 fun e W' =>
      (e = .returned (.bool true) ∧ J (pre ++ [x]) W' ∧ Rnd N lo (lo + 2) W1 W') ∨ (e = .returned (.bool false) ∧ Jx (pre ++ [x]) W' ∧ Rnd N lo (lo + 2) W1 W')

theorem box_cell {W : World} {B : Nat} {v : Value} {t : TypeId} (h : W.heap[B]? = some (.cells #[v] t (0, 0))) : W.cell? ⟨B, 0, none⟩ = some v ∧ W.frozen? ⟨B, 0, none⟩ = false := by
  constructor <;> simp [World.cell?, World.frozen?, h]

theorem box_set {W : World} {B : Nat} {v : Value} {t : TypeId} (h : W.heap[B]? = some (.cells #[v] t (0, 0))) (u : Value) : (W.setCell ⟨B, 0, none⟩ u).heap[B]? = some (.cells #[u] t (0, 0)) := by
  obtain ⟨hlt, hk'⟩ := Array.getElem?_eq_some_iff.1 h
  show (W.heap.modify B _)[B]? = _
  rw [Array.getElem?_eq_getElem (by rw [Array.size_modify]; exact hlt), Array.getElem_modify_self, hk']
  rfl

/-- The state abides a step of the iterator's own that is a new block. -/
theorem St.alloc {N : Nat → Prop} {J : List Pc → World → Prop} {w0 : World} {l lo : Nat} {pre : List Pc} {W : World} (h : St N J w0 l lo pre W) (hJ : Stab lo (lo + 2) J) (o : Obj) : St N J w0 l lo pre (W.alloc o) := by
  have hlt := h.lt
  have hle := h.le
  exact ⟨hJ _ _ _ h.j (Kept.alloc _ _ _ _), (Below.heap_alloc W o lo (by omega)).trans h.yb, (Below.heap_alloc W o _ hlt).trans h.pb, h.le, fun k hk hN => (Below.heap_alloc W o k (by omega)).trans (h.lay k hk hN)⟩

/-- What the world must be behind a round. -/
theorem yd_more {N : Nat → Prop} {J Jx : List Pc → World → Prop} {w0 : World} {l lo : Nat} {xs : List Pc} (hY : Yd N J Jx l lo xs) (n : Nat) (pre : List Pc) (x : Pc) (W : World) (hs : St N J w0 l lo pre W) (hp : pre ++ [x] <+: xs) :
    YieldAt Fence.wide n Tryz.prog l #[.int .i64 (pre.length : Int), x.v] W fun e W' =>
      ∃ b : Bool, e = .returned (.bool b) ∧ (if b = true then J (pre ++ [x]) W' else Jx (pre ++ [x]) W') ∧ W'.heap[lo]? = some (.cells #[.func (.yield l) #[] #[]] 139 (0, 0)) ∧ W'.heap[lo + 1]? = some (.cells #[.int .i64 (pre.length : Int)] 3 (0, 0)) ∧ Lay N w0 W' := by
  refine YieldAt.mono (hY n pre x W hs.j (by have := hs.lt; omega) hp) (fun e W' h => ?_)
  have hr : Rnd N lo (lo + 2) W W' := by rcases h with ⟨_, _, h⟩ | ⟨_, _, h⟩ <;> exact h
  have h1 := (hr.block lo (by have := hs.lt; omega) (by omega)).trans hs.yb
  have h2 := (hr.block (lo + 1) (by have := hs.lt; omega) (by omega)).trans hs.pb
  have h3 := hs.lay.rnd (by have := hs.lt; have := hs.le; omega) hr
  rcases h with ⟨a, b, _⟩ | ⟨a, b, _⟩
  · exact ⟨true, a, by simpa using b, h1, h2, h3⟩
  · exact ⟨false, a, by simpa using b, h1, h2, h3⟩

set_option maxRecDepth 100000 in
set_option maxHeartbeats 2000000 in
theorem visit_in (N : Nat → Prop) (J Jx : List Pc → World → Prop) (w0 : World) (l lo : Nat) (xs : List Pc) (hY : Yd N J Jx l lo xs) (hJ : Stab lo (lo + 2) J) (hJx : Stab lo (lo + 2) Jx)
    (n : Nat) (pre : List Pc) (x : Pc) (W : World) (hs : St N J w0 l lo pre W) (hp : pre ++ [x] <+: xs) (hlen : pre.length ≤ 1048576) :
    CallsIn Fence.wide n Tryz.prog 82 #[x.v, .pointer (some ⟨lo, 0, none⟩), .pointer (some ⟨lo + 1, 0, none⟩)] W fun e W' =>
      ∃ b : Bool, e = .returned (.bool b) ∧ (if b = true then St N J w0 l lo (pre ++ [x]) W' else Jx (pre ++ [x]) W') := by
  have hle := hs.le
  obtain ⟨s, o, len, nn⟩ := x
  have hs1 := hs.alloc hJ (.cells #[.int .i64 s, .int .i64 o, .int .i64 len, .int .i64 nn] 59)
  have hc2 : (W.alloc (.cells #[.int .i64 s, .int .i64 o, .int .i64 len, .int .i64 nn] 59)).heap[W.heap.size]? = some (.cells #[.int .i64 s, .int .i64 o, .int .i64 len, .int .i64 nn] 59 (0, 0)) := World.alloc_heap_new _ _
  obtain ⟨fn, tmps, assign, body, hy, hR⟩ := yd_more hY (n - 1) pre ⟨s, o, len, nn⟩ _ hs1 hp
  obtain ⟨hc0, hf0⟩ := box_cell hs1.yb
  obtain ⟨hc1, hf1⟩ := box_cell hs1.pb
  have HR := hid hR
  clear hR hs1
  have HS := hid hs
  clear hs hY
  have HP := hid hp
  clear hp
  simp only [Pc.v] at hy ⊢
  refine callsIn_of_wp Tryz.func82 rfl trivial ?_ rfl
  simp only [Tryz.ntmps82, List.size_toArray, List.length_cons, List.length_nil, Nat.reduceAdd, Nat.reduceSub, Array.replicate_succ, Array.replicate_zero, List.push_toArray, List.append_toArray, List.nil_append, List.cons_append]
  gi_wp2
  refine ⟨fun h => (by cases h), ?_⟩
  refine (Hid.out HR).mono ?_
  clear HR hy hc0 hf0 hc1 hf1 hc2
  rintro e W3 ⟨b, rfl, hj, h1, h2, h3⟩
  obtain ⟨hc1, hf1⟩ := box_cell h2
  have H1 := hid h1
  have H2 := hid h2
  clear h1 h2
  gi_wp2
  go_ret
  refine ⟨b, rfl, ?_⟩
  have hk : Kept lo (lo + 2) W3 (W3.setCell ⟨lo + 1, 0, none⟩ (.int .i64 ((pre.length : Int) + 1))) := Kept.setCell _ _ _ (by simp) (by simp)
  cases b with
  | true =>
    simp only [if_true] at hj ⊢
    refine ⟨hJ _ _ _ hj hk, ?_, ?_, hle, ?_⟩
    · exact (Below.heap_setCell _ _ _ _ (by simp)).trans H1.out
    · have := box_set H2.out (.int .i64 ((pre.length : Int) + 1))
      simpa using this
    · exact fun k hk hN => (Below.heap_setCell _ _ _ _ (by simp; omega)).trans (h3 k hk hN)
  | false =>
    simp only [Bool.false_eq_true, if_false] at hj ⊢
    exact hJx _ _ _ hj hk

theorem yield_nil (l : Nat) (W : World) : (binOp BinOp.eql 139 (.func (.yield l) #[] #[]) Value.nilFunc).run Tryz.prog W = .ok (.bool false) W := by kernel_rfl

/-- What a walk over a tree gives. -/
def Wk (N : Nat → Prop) (J Jx : List Pc → World → Prop) (w0 : World) (l lo : Nat) (pre ys : List Pc) (e : Ending) (W' : World) : Prop :=
  ∃ b : Bool, e = .returned (.bool b) ∧ (if b = true then St N J w0 l lo (pre ++ ys) W' else ∃ q, q <+: ys ∧ Jx (pre ++ q) W')

set_option maxHeartbeats 1000000 in
theorem walk_nil (N : Nat → Prop) (J Jx : List Pc → World → Prop) (w0 : World) (l lo n : Nat) (pre : List Pc) (v : Value) (W : World) (hs : St N J w0 l lo pre W) :
    CallsIn Fence.wide n Tryz.prog 81 #[.pointer none, v] W (Wk N J Jx w0 l lo pre []) := by
  have HS := hid hs
  clear hs
  refine callsIn_of_wp Tryz.func81 rfl trivial ?_ rfl
  simp only [Tryz.ntmps81, List.size_toArray, List.length_cons, List.length_nil, Nat.reduceAdd, Nat.reduceSub, Array.replicate_succ, Array.replicate_zero, List.push_toArray, List.append_toArray, List.nil_append, List.cons_append]
  gi_wp2
  go_ret
  exact ⟨true, rfl, by simpa using HS.out⟩

set_option maxRecDepth 100000 in
set_option maxHeartbeats 2000000 in
theorem walk_node (N : Nat → Prop) (J Jx : List Pc → World → Prop) (w0 : World) (l lo : Nat) (xs : List Pc) (c : Bool) (tl : Tr) (p : Pc) (tr : Tr) (b : Nat) (la ra : Option Addr) (hb : b < w0.heap.size) (hNb : N b)
    (h0 : w0.heap[b]? = some (nodeObj c tl p tr la ra))
    (ihl : Hid (∀ n pre W, St N J w0 l lo pre W → pre ++ tl.list <+: xs → CallsIn Fence.wide n Tryz.prog 81 #[.pointer la, .func (.func 82) #[] #[.pointer (some ⟨lo, 0, none⟩), .pointer (some ⟨lo + 1, 0, none⟩)]] W (Wk N J Jx w0 l lo pre tl.list)))
    (ihr : Hid (∀ n pre W, St N J w0 l lo pre W → pre ++ tr.list <+: xs → CallsIn Fence.wide n Tryz.prog 81 #[.pointer ra, .func (.func 82) #[] #[.pointer (some ⟨lo, 0, none⟩), .pointer (some ⟨lo + 1, 0, none⟩)]] W (Wk N J Jx w0 l lo pre tr.list)))
    (hv : Hid (∀ n pre x W, St N J w0 l lo pre W → pre ++ [x] <+: xs → CallsIn Fence.wide n Tryz.prog 82 #[x.v, .pointer (some ⟨lo, 0, none⟩), .pointer (some ⟨lo + 1, 0, none⟩)] W fun e W' =>
      ∃ b : Bool, e = .returned (.bool b) ∧ (if b = true then St N J w0 l lo (pre ++ [x]) W' else Jx (pre ++ [x]) W')))
    (n : Nat) (pre : List Pc) (W : World) (hs : St N J w0 l lo pre W) (hp : pre ++ (tl.list ++ p :: tr.list) <+: xs) :
    CallsIn Fence.wide n Tryz.prog 81 #[.pointer (some ⟨b, 0, none⟩), .func (.func 82) #[] #[.pointer (some ⟨lo, 0, none⟩), .pointer (some ⟨lo + 1, 0, none⟩)]] W (Wk N J Jx w0 l lo pre (tl.list ++ p :: tr.list)) := by
  have cells : ∀ {q : List Pc} {W' : World}, St N J w0 l lo q W' → NCells W' b c tl p tr la ra := fun h => ncells ((h.lay b hb hNb).trans h0)
  have N1 := cells hs
  obtain ⟨hlt, c0, c1, c2, c3, c4, c5, c6, c7, c8, c9, c10, c11, c12, c13⟩ := N1
  have i1 := hid (ihl.out (n - 1) pre W hs (by obtain ⟨r, hr⟩ := hp; exact ⟨p :: tr.list ++ r, by simp [← hr]⟩))
  clear ihl
  have HP := hid hp
  clear hp
  have HS := hid hs
  clear hs
  refine callsIn_of_wp Tryz.func81 rfl trivial ?_ rfl
  simp only [Tryz.ntmps81, List.size_toArray, List.length_cons, List.length_nil, Nat.reduceAdd, Nat.reduceSub, Array.replicate_succ, Array.replicate_zero, List.push_toArray, List.append_toArray, List.nil_append, List.cons_append]
  gi_wp2
  refine ⟨trivial, fun h => (by cases h), ?_⟩
  refine (Hid.out i1).mono ?_
  clear i1 c0 c1 c2 c3 c4 c5 c6 c7 c8 c9 c10 c11 c12 c13
  rintro e W1 ⟨b1, rfl, hs1⟩
  cases b1 with
  | false =>
    simp only [Bool.false_eq_true, if_false] at hs1
    have H1 := hid hs1
    clear hs1
    gi_wp2
    refine ⟨fun _ h => (by cases h), ?_⟩
    gi_wp2
    refine ⟨trivial, ?_⟩
    gi_wp2
    go_ret
    obtain ⟨q, hq, hx⟩ := H1.out
    exact ⟨false, rfl, by simpa using ⟨q, hq.trans (by simp), hx⟩⟩
  | true =>
    simp only [if_true] at hs1
    obtain ⟨hlt1, c0, c1, c2, c3, c4, c5, c6, c7, c8, c9, c10, c11, c12, c13⟩ := cells hs1
    have i2 := hid (hv.out (n - 1) (pre ++ tl.list) p W1 hs1 (by obtain ⟨r, hr⟩ := HP.out; exact ⟨tr.list ++ r, by simp [← hr]⟩))
    clear hv
    have H1 := hid hs1
    clear hs1
    gi_wp2
    refine ⟨trivial, fun h => (by cases h), ?_⟩
    refine (Hid.out i2).mono ?_
    clear i2 c0 c1 c2 c3 c4 c5 c6 c7 c8 c9 c10 c11 c12 c13
    rintro e W2 ⟨b2, rfl, hs2⟩
    cases b2 with
    | false =>
      simp only [Bool.false_eq_true, if_false] at hs2
      have H2 := hid hs2
      clear hs2
      gi_wp2
      refine ⟨trivial, ?_⟩
      gi_wp2
      go_ret
      refine ⟨false, rfl, ?_⟩
      simp only [Bool.false_eq_true, if_false]
      exact ⟨tl.list ++ [p], ⟨tr.list, by simp⟩, by simpa using H2.out⟩
    | true =>
      simp only [if_true] at hs2
      obtain ⟨hlt2, c0, c1, c2, c3, c4, c5, c6, c7, c8, c9, c10, c11, c12, c13⟩ := cells hs2
      have i3 := hid (ihr.out (n - 1) (pre ++ tl.list ++ [p]) W2 hs2 (by obtain ⟨r, hr⟩ := HP.out; exact ⟨r, by simp [← hr]⟩))
      clear ihr
      have H2 := hid hs2
      clear hs2
      gi_wp2
      refine ⟨trivial, fun h => (by cases h), ?_⟩
      refine (Hid.out i3).mono ?_
      clear i3 c0 c1 c2 c3 c4 c5 c6 c7 c8 c9 c10 c11 c12 c13
      rintro e W3 ⟨b3, rfl, hs3⟩
      have H3 := hid hs3
      clear hs3
      gi_wp2
      go_ret
      refine ⟨b3, rfl, ?_⟩
      cases b3 with
      | false =>
        obtain ⟨q, ⟨r, hr⟩, hx⟩ := (by simpa using H3.out : ∃ q, q <+: tr.list ∧ Jx (pre ++ (tl.list ++ p :: q)) W3)
        simp only [Bool.false_eq_true, if_false]
        exact ⟨tl.list ++ p :: q, ⟨r, by simp [← hr]⟩, hx⟩
      | true =>
        have := H3.out
        simp only [if_true] at this ⊢
        simpa using this

/-- A walk over any tree. -/
theorem walk_in (N : Nat → Prop) (J Jx : List Pc → World → Prop) (w0 : World) (hN : ∀ (b : Nat) (cs : Array Value), w0.heap[b]? = some (Obj.cells cs 168 (0, 0)) → N b) (l lo : Nat) (xs : List Pc)
    (hv : Hid (∀ n pre x W, St N J w0 l lo pre W → pre ++ [x] <+: xs → CallsIn Fence.wide n Tryz.prog 82 #[x.v, .pointer (some ⟨lo, 0, none⟩), .pointer (some ⟨lo + 1, 0, none⟩)] W fun e W' =>
      ∃ b : Bool, e = .returned (.bool b) ∧ (if b = true then St N J w0 l lo (pre ++ [x]) W' else Jx (pre ++ [x]) W'))) :
    ∀ (t : Tr) (a : Option Addr), At w0 t a → ∀ n pre W, St N J w0 l lo pre W → pre ++ t.list <+: xs →
      CallsIn Fence.wide n Tryz.prog 81 #[.pointer a, .func (.func 82) #[] #[.pointer (some ⟨lo, 0, none⟩), .pointer (some ⟨lo + 1, 0, none⟩)]] W (Wk N J Jx w0 l lo pre t.list)
  | Tr.mk none, a, h, n, pre, W, hs, hp => by
    obtain rfl : a = none := h
    exact walk_nil N J Jx w0 l lo n pre _ W hs
  | Tr.mk (some (c, tl, p, tr)), a, h, n, pre, W, hs, hp => by
    obtain ⟨b, la, ra, rfl, h0, h1, h2⟩ := h
    exact walk_node N J Jx w0 l lo xs c tl p tr b la ra (Array.getElem?_eq_some_iff.1 h0).1 (hN b _ h0) h0 (hid (walk_in N J Jx w0 hN l lo xs hv tl la h1)) (hid (walk_in N J Jx w0 hN l lo xs hv tr ra h2)) hv n pre W hs hp

set_option maxRecDepth 100000 in
set_option maxHeartbeats 2000000 in
/-- The function value that All gives, as an iterator. -/
theorem all_seq (N : Nat → Prop) (w0 : World) (t : Tr) (a : Option Addr) (B : Nat) (w : World) (hA : At w0 t a) (hN : ∀ (b : Nat) (cs : Array Value), w0.heap[b]? = some (Obj.cells cs 168 (0, 0)) → N b) (hlay : Lay N w0 w) (hle : w0.heap.size ≤ w.heap.size) (hbox : w.heap[B]? = some (.cells #[.pointer a] 53 (0, 0))) (hsz : t.size ≤ 1048576) :
    SeqC Fence.wide Tryz.prog 80 #[.pointer (some ⟨B, 0, none⟩)] (fun i (x : Pc) => #[.int .i64 (i : Int), x.v]) 2 N t.list w := by
  intro n l J Jx W hW hJ hJx hY h0
  have hlw := hW.size
  have hBlt := (Array.getElem?_eq_some_iff.1 hbox).1
  have hbW : W.heap[B]? = some (.cells #[.pointer a] 53 (0, 0)) := (hW.block B hBlt).trans hbox
  have hs0 : St N J w0 l W.heap.size [] ((W.alloc (.cells #[.func (.yield l) #[] #[]] 139)).alloc (.cells #[.int .i64 0] 3)) := by
    refine ⟨hJ _ _ _ h0 ((Kept.alloc _ _ _ _).trans (Kept.alloc _ _ _ _)), ?_, ?_, by omega, ?_⟩
    · exact (Below.heap_alloc _ _ _ (by simp)).trans (World.alloc_heap_new W _)
    · have := World.alloc_heap_new (W.alloc (.cells #[.func (.yield l) #[] #[]] 139)) (.cells #[.int .i64 0] 3)
      rwa [World.size_alloc] at this
    · exact fun k hk hN => (((Below.heap_alloc _ _ _ (by simp; omega)).trans (Below.heap_alloc _ _ _ (by omega))).trans (hW.block k (by omega))).trans (hlay k hk hN)
  have hwk := hid (walk_in N J Jx w0 hN l W.heap.size t.list (hid fun n pre x W1 hs hp => visit_in N J Jx w0 l W.heap.size t.list hY hJ hJx n pre x W1 hs hp (by
    have := hp.length_le; simp at this; have := t.size_list; omega)) t a hA (n - 1) [] _ hs0 (by simp))
  have HS := hid hs0
  clear hs0 hY hJ hJx h0
  have hcB : ((W.alloc (.cells #[.func (.yield l) #[] #[]] 139)).alloc (.cells #[.int .i64 0] 3)).heap[B]? = some (.cells #[.pointer a] 53 (0, 0)) :=
    ((Below.heap_alloc _ _ _ (by simp; omega)).trans (Below.heap_alloc _ _ _ (by omega))).trans hbW
  obtain ⟨hc0, hf0⟩ := box_cell hcB
  obtain ⟨hc1, hf1⟩ := box_cell (World.alloc_heap_new W (.cells #[.func (.yield l) #[] #[]] 139))
  clear hcB hbW hbox
  have hyn := yield_nil l
  refine callsIn_of_wp Tryz.func80 rfl trivial ?_ rfl
  simp only [Tryz.ntmps80, List.size_toArray, List.length_cons, List.length_nil, Nat.reduceAdd, Nat.reduceSub, Array.replicate_succ, Array.replicate_zero, List.push_toArray, List.append_toArray, List.nil_append, List.cons_append]
  gi_wp2
  refine ⟨trivial, fun h => (by cases h), ?_⟩
  refine (Hid.out hwk).mono ?_
  clear hwk HS hc0 hf0 hc1 hf1
  rintro e W2 ⟨b, rfl, hs2⟩
  have H2 := hid hs2
  clear hs2
  gi_wp2
  go_end0
  refine ⟨⟨_, rfl⟩, ?_⟩
  cases b with
  | true => exact .inl (by simpa using (show St N J w0 l W.heap.size ([] ++ t.list) W2 from H2.out).j)
  | false =>
    obtain ⟨q, hq, hx⟩ := (show ∃ q, q <+: t.list ∧ Jx ([] ++ q) W2 from H2.out)
    exact .inr ⟨q, hq, by simpa using hx⟩

set_option maxHeartbeats 1000000 in
/-- All: the tree is boxed; the function value captures the box. -/
theorem all_in (F : Fence) (n : Nat) (h4 : F.fn 46) (hro : F.round = none) (a : Option Addr) (w : World) :
    CallsIn F n Tryz.prog 46 #[.agg #[.pointer a]] w fun e w' => e = .returned (.func (.func 80) #[] #[.pointer (some ⟨w.heap.size, 0, none⟩)]) ∧ w' = w.alloc (.cells #[.pointer a] 53) := by
  refine callsIn_of_wp Tryz.func46 rfl h4 ?_ hro
  simp only [Tryz.ntmps46, List.size_toArray, List.length_cons, List.length_nil, Nat.reduceAdd, Nat.reduceSub, Array.replicate_succ, Array.replicate_zero, List.push_toArray, List.append_toArray, List.nil_append, List.cons_append]
  gi_wp2
  go_ret
  exact ⟨rfl, rfl⟩

theorem all_any (a : Option Addr) (w : World) :
    Calls Tryz.prog 46 #[.agg #[.pointer a]] w fun e w' => e = .returned (.func (.func 80) #[] #[.pointer (some ⟨w.heap.size, 0, none⟩)]) ∧ w' = w.alloc (.cells #[.pointer a] 53) :=
  callsIn_wide.1 (all_in Fence.wide 0 trivial rfl a w)

end Go.Proofs.YtmhpeppbhjpkiaaGreat

/- The contract of makeNode: a new node with its sums, for two trees that lie in memory. -/
namespace Go.Proofs.YtmhpeppbhjpkiaaGreat
open Go.RowKit

theorem has_ptr {w : World} {t : Tr} {a : Option Addr} (h : At w t a) : a.isSome = t.has := by
  cases t using Tr.el with
  | nil => have e : a = none := h; subst e; rfl
  | node c l p r => obtain ⟨b, la, ra, rfl, -⟩ := h; rfl

theorem made_here (w : World) (o1 o2 x : Obj) (h : o2 = x) : ((w.alloc o1).alloc o2).drew.heap[w.heap.size + 1]? = some x := by
  subst h
  show ((w.alloc o1).heap.push o2)[w.heap.size + 1]? = _
  rw [Array.getElem?_push, if_pos (by simp)]

theorem node_eq {c x5 x6 : Bool} {l : Tr} {s o n k : Int} {r : Tr} {la ra : Option Addr} {x7 x8 x9 x12 x13 : Int} (h5 : x5 = l.has) (h6 : x6 = r.has)
    (h7 : x7 = (((Tr.mk (some (c, l, ⟨s, o, n, k⟩, r)))).size : Nat)) (h8 : x8 = ((Tr.mk (some (c, l, ⟨s, o, n, k⟩, r)))).byt) (h9 : x9 = ((Tr.mk (some (c, l, ⟨s, o, n, k⟩, r)))).lin) (h12 : x12 = (((Tr.mk (some (c, l, ⟨s, o, n, k⟩, r)))).bh : Nat)) (h13 : x13 = (((Tr.mk (some (c, l, ⟨s, o, n, k⟩, r)))).ht : Nat)) :
    Obj.cells #[.int .i64 s, .int .i64 o, .int .i64 n, .int .i64 k, .bool c, .bool x5, .bool x6, .int .i64 x7, .int .i64 x8, .int .i64 x9, .pointer la, .pointer ra, .int .i64 x12, .int .i64 x13] 168 = nodeObj c l ⟨s, o, n, k⟩ r la ra := by
  subst h5 h6 h7 h8 h9 h12 h13; rfl

theorem w64 {x : Int} (h1 : -9223372036854775808 ≤ x) (h2 : x ≤ 9223372036854775807) : wrap64 x = x := Go.IntWalk.wrap64_in x ⟨h1, h2⟩
theorem sum7 {c : Bool} {l r : Tr} {p : Pc} (h : ((Tr.mk (some (c, l, p, r)))).fine) : wrap64 (wrap64 (↑l.size + 1) + ↑r.size) = (((Tr.mk (some (c, l, p, r)))).size : Nat) := by
  have := h.2; simp only [Tr.size] at *
  rw [w64 (x := (l.size : Int) + 1) (by omega) (by omega), w64 (by omega) (by omega)]; push_cast; rfl
theorem sum8 {c : Bool} {l r : Tr} {s o n k : Int} (h : ((Tr.mk (some (c, l, ⟨s, o, n, k⟩, r)))).fine) : wrap64 (wrap64 (l.byt + n) + r.byt) = ((Tr.mk (some (c, l, ⟨s, o, n, k⟩, r)))).byt := by
  have h0 := h.2; have h1 := l.fits_bounds h.left.1; have h2 := r.fits_bounds h.right.1; have h3 := h.piece; simp only [Tr.size, Pc.fit, Tr.byt] at *
  rw [w64 (x := l.byt + n) (by omega) (by omega), w64 (by omega) (by omega)]
theorem sum9 {c : Bool} {l r : Tr} {s o n k : Int} (h : ((Tr.mk (some (c, l, ⟨s, o, n, k⟩, r)))).fine) : wrap64 (wrap64 (l.lin + k) + r.lin) = ((Tr.mk (some (c, l, ⟨s, o, n, k⟩, r)))).lin := by
  have h0 := h.2; have h1 := l.fits_bounds h.left.1; have h2 := r.fits_bounds h.right.1; have h3 := h.piece; simp only [Tr.size, Pc.fit, Tr.lin] at *
  rw [w64 (x := l.lin + k) (by omega) (by omega), w64 (by omega) (by omega)]
theorem sum12 {c : Bool} {l r : Tr} {p : Pc} (h : ((Tr.mk (some (c, l, p, r)))).fine) (hc : (!c) = true) : wrap64 (↑l.bh + 1) = (((Tr.mk (some (c, l, p, r)))).bh : Nat) := by
  have := h.2; have := l.bh_le; simp only [Tr.size] at *
  have e : c = false := by simpa using hc
  subst e
  rw [w64 (by omega) (by omega)]; simp [Tr.bh]
theorem sum12' {c : Bool} {l r : Tr} {p : Pc} (hc : (!c) = false) : (l.bh : Int) = (((Tr.mk (some (c, l, p, r)))).bh : Nat) := by
  have e : c = true := by simpa using hc
  subst e; simp [Tr.bh]
theorem sum13 {c : Bool} {l r : Tr} {p : Pc} (h : ((Tr.mk (some (c, l, p, r)))).fine) (hc : l.ht < r.ht) : wrap64 (1 + ↑r.ht) = (((Tr.mk (some (c, l, p, r)))).ht : Nat) := by
  have := h.2; have := r.ht_le; simp only [Tr.size] at *
  rw [w64 (by omega) (by omega)]; simp only [Tr.ht]; omega
theorem sum13' {c : Bool} {l r : Tr} {p : Pc} (h : ((Tr.mk (some (c, l, p, r)))).fine) (hc : ¬ l.ht < r.ht) : wrap64 (1 + ↑l.ht) = (((Tr.mk (some (c, l, p, r)))).ht : Nat) := by
  have := h.2; have := l.ht_le; simp only [Tr.size] at *
  rw [w64 (by omega) (by omega)]; simp only [Tr.ht]; omega

set_option maxHeartbeats 4000000 in
theorem make_any (c : Bool) (l : Tr) (s o n k : Int) (r : Tr) (la ra : Option Addr) (w : World) (hf : Hid (((Tr.mk (some (c, l, ⟨s, o, n, k⟩, r)))).fine)) (hl : Hid (At w l la)) (hr : Hid (At w r ra)) :
    Calls Tryz.prog 90 #[.bool c, .pointer la, .agg #[.int .i64 s, .int .i64 o, .int .i64 n, .int .i64 k], .pointer ra] w fun e w' =>
      ∃ b, e = .returned (.pointer (some ⟨b, 0, none⟩)) ∧ At w' ((Tr.mk (some (c, l, ⟨s, o, n, k⟩, r)))) (some ⟨b, 0, none⟩) ∧ Below w.heap.size w w' := by
  go_enter Tryz.func90, Tryz.ntmps90
  go_wp2
  go_region_held3 (fun w' => w'.cell? ⟨w.heap.size, 0, none⟩ = some (.int .i64 s) ∧ w'.cell? ⟨w.heap.size, 1, none⟩ = some (.int .i64 o) ∧ w'.cell? ⟨w.heap.size, 2, none⟩ = some (.int .i64 n) ∧ w'.cell? ⟨w.heap.size, 3, none⟩ = some (.int .i64 k)) (simp [go_sem, World.cell?_alloc_past])
    (first | (go_at_call_of 86 (Value.pointer la); refine (pieces_any l la _ (((hl.out.alloc _).alloc _).drew)).mono ?_; rintro e w' ⟨rfl, rfl⟩)
           | (go_at_call_of 86 (Value.pointer ra); refine (pieces_any r ra _ (((hr.out.alloc _).alloc _).drew)).mono ?_; rintro e w' ⟨rfl, rfl⟩)
           | (go_at_call_of 106 (Value.pointer la); refine (bytes_any l la _ (((hl.out.alloc _).alloc _).drew)).mono ?_; rintro e w' ⟨rfl, rfl⟩)
           | (go_at_call_of 106 (Value.pointer ra); refine (bytes_any r ra _ (((hr.out.alloc _).alloc _).drew)).mono ?_; rintro e w' ⟨rfl, rfl⟩)
           | (go_at_call_of 108 (Value.pointer la); refine (lines_any l la _ (((hl.out.alloc _).alloc _).drew)).mono ?_; rintro e w' ⟨rfl, rfl⟩)
           | (go_at_call_of 108 (Value.pointer ra); refine (lines_any r ra _ (((hr.out.alloc _).alloc _).drew)).mono ?_; rintro e w' ⟨rfl, rfl⟩))
  go_wp2_with (first | (go_at_call_of 120 (Value.pointer la); refine (height_any l la _ (((hl.out.alloc _).alloc _).drew)).mono ?_; rintro e w' ⟨rfl, rfl⟩)
                     | (go_at_call_of 120 (Value.pointer ra); refine (height_any r ra _ (((hr.out.alloc _).alloc _).drew)).mono ?_; rintro e w' ⟨rfl, rfl⟩)
                     | (go_at_call_of 89 (Value.pointer la); refine (black_any l la _ (((hl.out.alloc _).alloc _).drew)).mono ?_; rintro e w' ⟨rfl, rfl⟩))
  all_goals go_ret
  all_goals refine ⟨_, rfl, ⟨w.heap.size + 1, la, ra, rfl, made_here w _ _ _ (node_eq (has_ptr hl.out) (has_ptr hr.out) ?_ ?_ ?_ ?_ ?_), ((hl.out.alloc _).alloc _).drew, ((hr.out.alloc _).alloc _).drew⟩, (bAlloc (bAlloc (Below.refl _ _) _) _).drew⟩
  all_goals first | exact sum7 hf.out | exact sum8 hf.out | exact sum9 hf.out | exact sum12 hf.out (by assumption) | exact sum12' (by assumption) | exact sum13 hf.out (by assumption) | exact sum13' hf.out (by assumption)
end Go.Proofs.YtmhpeppbhjpkiaaGreat

