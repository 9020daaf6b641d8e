/- Trees of pieces as plain data; how one lies in memory ('At'); the small questions that a node is asked. -/
import Derived.Test.YtpifjghhlcjedaaRows
import Derived.WalkKit
import Derived.WalkSpells
import Derived.WalkLawsBesides
import Derived.Outline
import Derived.RegionTactic
import Derived.BigRegion
import Derived.Deep.RegionWith
import Derived.Deep.QuietTactic
import Derived.BigQuiet
import Derived.Deep.RegionHeld3
namespace Go.Proofs.Ytpifjghhlcjedaa
open Go.RowKit

/-- A piece: its span's Src, Off and Len, and its line ends. -/
structure Pc where
  s : Int
  o : Int
  l : Int
  n : Int

/-- A fit piece. -/
def Pc.fit (p : Pc) : Prop := 1 ≤ p.l ∧ p.l ≤ 2147483647 ∧ 0 ≤ p.n ∧ p.n ≤ p.l

/-- The piece as a value. -/
def Pc.v (p : Pc) : Value := .agg #[.int .i64 p.s, .int .i64 p.o, .int .i64 p.l, .int .i64 p.n]

/-- A tree: none, or a colour, a tree, a piece, a tree. -/
structure Tr where
  k : Option (Bool × Tr × Pc × Tr)
theorem Tr.el {motive : Tr → Prop} (t : Tr) (nil : motive (Tr.mk none)) (node : ∀ c l p r, motive (Tr.mk (some (c, l, p, r)))) : motive t :=
  match t with
  | Tr.mk none => nil
  | Tr.mk (some (c, l, p, r)) => node c l p r

theorem Tr.inj {c c' : Bool} {l l' : Tr} {p p' : Pc} {r r' : Tr} (h : Tr.mk (some (c, l, p, r)) = Tr.mk (some (c', l', p', r'))) : c = c' ∧ l = l' ∧ p = p' ∧ r = r' := by
  simpa using h

namespace Tr
def size : Tr → Nat
  | (Tr.mk none) => 0
  | (Tr.mk (some (_, l, _, r))) => l.size + 1 + r.size
def byt : Tr → Int
  | (Tr.mk none) => 0
  | (Tr.mk (some (_, l, p, r))) => l.byt + p.l + r.byt
def lin : Tr → Int
  | (Tr.mk none) => 0
  | (Tr.mk (some (_, l, p, r))) => l.lin + p.n + r.lin
def bh : Tr → Nat
  | (Tr.mk none) => 0
  | (Tr.mk (some (c, l, _, _))) => if c = true then l.bh else l.bh + 1
def ht : Tr → Nat
  | (Tr.mk none) => 0
  | (Tr.mk (some (_, l, _, r))) => 1 + max l.ht r.ht
def red : Tr → Bool
  | (Tr.mk none) => false
  | (Tr.mk (some (c, _, _, _))) => c
def has : Tr → Bool
  | (Tr.mk none) => false
  | (Tr.mk (some (_, _, _, _))) => true
def list : Tr → List Pc
  | (Tr.mk none) => []
  | (Tr.mk (some (_, l, p, r))) => l.list ++ p :: r.list
/-- all pieces are fit -/
def fits : Tr → Prop
  | (Tr.mk none) => True
  | (Tr.mk (some (_, l, p, r))) => l.fits ∧ p.fit ∧ r.fits
/-- fit, and not too many -/
def fine (t : Tr) : Prop := t.fits ∧ t.size ≤ 1048576
end Tr

theorem Tr.fits_bounds : ∀ (t : Tr), t.fits → 0 ≤ t.byt ∧ t.byt ≤ 2147483647 * (t.size : Int) ∧ 0 ≤ t.lin ∧ t.lin ≤ t.byt ∧ (t.size : Int) ≤ t.byt
  | (Tr.mk none), _ => by simp [Tr.byt, Tr.lin, Tr.size]
  | (Tr.mk (some (c, l, p, r))), h => by
    obtain ⟨h1, h2, h3⟩ := h
    have a := Tr.fits_bounds l h1
    have b := Tr.fits_bounds r h3
    unfold Pc.fit at h2
    simp only [Tr.byt, Tr.lin, Tr.size]
    push_cast
    omega
theorem Tr.ht_le : ∀ (t : Tr), t.ht ≤ t.size
  | (Tr.mk none) => by simp [Tr.ht, Tr.size]
  | (Tr.mk (some (c, l, p, r))) => by
    have a := Tr.ht_le l
    have b := Tr.ht_le r
    simp only [Tr.ht, Tr.size]
    omega
theorem Tr.bh_le : ∀ (t : Tr), t.bh ≤ t.size
  | (Tr.mk none) => by simp [Tr.bh, Tr.size]
  | (Tr.mk (some (c, l, p, r))) => by
    have a := Tr.bh_le l
    simp only [Tr.bh, Tr.size]
    split <;> omega
theorem Tr.fine.left {c : Bool} {l : Tr} {p : Pc} {r : Tr} (h : ((Tr.mk (some (c, l, p, r)))).fine) : l.fine := ⟨h.1.1, by have := h.2; simp only [Tr.size] at this; omega⟩
theorem Tr.fine.right {c : Bool} {l : Tr} {p : Pc} {r : Tr} (h : ((Tr.mk (some (c, l, p, r)))).fine) : r.fine := ⟨h.1.2.2, by have := h.2; simp only [Tr.size] at this; omega⟩
theorem Tr.fine.piece {c : Bool} {l : Tr} {p : Pc} {r : Tr} (h : ((Tr.mk (some (c, l, p, r)))).fine) : p.fit := h.1.2.1

/-- A node's block. -/
def nodeObj (c : Bool) (l : Tr) (p : Pc) (r : Tr) (la ra : Option Addr) : Obj :=
  .cells #[.int .i64 p.s, .int .i64 p.o, .int .i64 p.l, .int .i64 p.n, .bool c, .bool l.has, .bool r.has, .int .i64 (((Tr.mk (some (c, l, p, r)))).size : Nat), .int .i64 ((Tr.mk (some (c, l, p, r)))).byt, .int .i64 ((Tr.mk (some (c, l, p, r)))).lin, .pointer la, .pointer ra, .int .i64 (((Tr.mk (some (c, l, p, r)))).bh : Nat), .int .i64 (((Tr.mk (some (c, l, p, r)))).ht : Nat)] 137 (0, 0)

/-- The tree lies in w, its root at a. -/
def At (w : World) : Tr → Option Addr → Prop
  | (Tr.mk none), a => a = none
  | (Tr.mk (some (c, l, p, r))), a => ∃ b la ra, a = some ⟨b, 0, none⟩ ∧ w.heap[b]? = some (nodeObj c l p r la ra) ∧ At w l la ∧ At w r ra

theorem At.keep {w w' : World} (hb : Below w.heap.size w w') : ∀ {t : Tr} {a : Option Addr}, At w t a → At w' t a
  | (Tr.mk none), _, h => h
  | (Tr.mk (some (c, l, p, r))), _, ⟨b, la, ra, e, h, h1, h2⟩ => ⟨b, la, ra, e, by rw [hb.block b (Array.getElem?_eq_some_iff.1 h).1]; exact h, h1.keep hb, h2.keep hb⟩

theorem bAlloc {a w : World} (h : Below a.heap.size a w) (o : Obj) : Below a.heap.size a (w.alloc o) := h.alloc h.size o
theorem At.alloc {w : World} {t : Tr} {a : Option Addr} (h : At w t a) (x : Obj) : At (w.alloc x) t a := h.keep (bAlloc (Below.refl _ _) x)
theorem At.drew {w : World} {t : Tr} {a : Option Addr} (h : At w t a) : At w.drew t a := h.keep (Below.refl _ _).drew

/-- The node's cells, one by one. -/
structure NCells (w : World) (b : Nat) (c : Bool) (l : Tr) (p : Pc) (r : Tr) (la ra : Option Addr) : Prop where
  lt : b < w.heap.size
  c0 : w.cell? ⟨b, 0, none⟩ = some (.int .i64 p.s)
  c1 : w.cell? ⟨b, 1, none⟩ = some (.int .i64 p.o)
  c2 : w.cell? ⟨b, 2, none⟩ = some (.int .i64 p.l)
  c3 : w.cell? ⟨b, 3, none⟩ = some (.int .i64 p.n)
  c4 : w.cell? ⟨b, 4, none⟩ = some (.bool c)
  c5 : w.cell? ⟨b, 5, none⟩ = some (.bool l.has)
  c6 : w.cell? ⟨b, 6, none⟩ = some (.bool r.has)
  c7 : w.cell? ⟨b, 7, none⟩ = some (.int .i64 (((Tr.mk (some (c, l, p, r)))).size : Nat))
  c8 : w.cell? ⟨b, 8, none⟩ = some (.int .i64 ((Tr.mk (some (c, l, p, r)))).byt)
  c9 : w.cell? ⟨b, 9, none⟩ = some (.int .i64 ((Tr.mk (some (c, l, p, r)))).lin)
  c10 : w.cell? ⟨b, 10, none⟩ = some (.pointer la)
  c11 : w.cell? ⟨b, 11, none⟩ = some (.pointer ra)
  c12 : w.cell? ⟨b, 12, none⟩ = some (.int .i64 (((Tr.mk (some (c, l, p, r)))).bh : Nat))
  c13 : w.cell? ⟨b, 13, none⟩ = some (.int .i64 (((Tr.mk (some (c, l, p, r)))).ht : Nat))

theorem ncells {w : World} {b : Nat} {c : Bool} {l : Tr} {p : Pc} {r : Tr} {la ra : Option Addr} (h : w.heap[b]? = some (nodeObj c l p r la ra)) : NCells w b c l p r la ra := by
  have e := fun j => cell_of_row w b j _ 137 (0, 0) h
  refine ⟨(Array.getElem?_eq_some_iff.1 h).1, ?_, ?_, ?_, ?_, ?_, ?_, ?_, ?_, ?_, ?_, ?_, ?_, ?_, ?_⟩ <;> (rw [e]; rfl)

set_option maxHeartbeats 400000 in
theorem pieces_any (t : Tr) (a : Option Addr) (w : World) (h : Hid (At w t a)) :
    Calls Try.prog 61 #[.pointer a] w fun e w' => e = .returned (.int .i64 (t.size : Nat)) ∧ w' = w := by
  cases t using Tr.el with
  | nil => have e := h.out; simp only [At] at e; subst e; clear h; go_enter Try.func61, Try.ntmps61; go_wp2; go_ret; exact ⟨rfl, rfl⟩
  | node c l p r =>
    obtain ⟨b, la, ra, rfl, hb, -, -⟩ := h.out; have c7 := (ncells hb).c7; clear h hb
    go_enter Try.func61, Try.ntmps61; go_wp2; go_ret; exact ⟨rfl, rfl⟩
set_option maxHeartbeats 400000 in
theorem bytes_any (t : Tr) (a : Option Addr) (w : World) (h : Hid (At w t a)) :
    Calls Try.prog 89 #[.pointer a] w fun e w' => e = .returned (.int .i64 t.byt) ∧ w' = w := by
  cases t using Tr.el with
  | nil => have e := h.out; simp only [At] at e; subst e; clear h; go_enter Try.func89, Try.ntmps89; go_wp2; go_ret; exact ⟨rfl, rfl⟩
  | node c l p r =>
    obtain ⟨b, la, ra, rfl, hb, -, -⟩ := h.out; have c7 := (ncells hb).c8; clear h hb
    go_enter Try.func89, Try.ntmps89; go_wp2; go_ret; exact ⟨rfl, rfl⟩
set_option maxHeartbeats 400000 in
theorem lines_any (t : Tr) (a : Option Addr) (w : World) (h : Hid (At w t a)) :
    Calls Try.prog 96 #[.pointer a] w fun e w' => e = .returned (.int .i64 t.lin) ∧ w' = w := by
  cases t using Tr.el with
  | nil => have e := h.out; simp only [At] at e; subst e; clear h; go_enter Try.func96, Try.ntmps96; go_wp2; go_ret; exact ⟨rfl, rfl⟩
  | node c l p r =>
    obtain ⟨b, la, ra, rfl, hb, -, -⟩ := h.out; have c7 := (ncells hb).c9; clear h hb
    go_enter Try.func96, Try.ntmps96; go_wp2; go_ret; exact ⟨rfl, rfl⟩
set_option maxHeartbeats 400000 in
theorem height_any (t : Tr) (a : Option Addr) (w : World) (h : Hid (At w t a)) :
    Calls Try.prog 95 #[.pointer a] w fun e w' => e = .returned (.int .i64 (t.ht : Nat)) ∧ w' = w := by
  cases t using Tr.el with
  | nil => have e := h.out; simp only [At] at e; subst e; clear h; go_enter Try.func95, Try.ntmps95; go_wp2; go_ret; exact ⟨rfl, rfl⟩
  | node c l p r =>
    obtain ⟨b, la, ra, rfl, hb, -, -⟩ := h.out; have c7 := (ncells hb).c13; clear h hb
    go_enter Try.func95, Try.ntmps95; go_wp2; go_ret; exact ⟨rfl, rfl⟩
set_option maxHeartbeats 400000 in
theorem black_any (t : Tr) (a : Option Addr) (w : World) (h : Hid (At w t a)) :
    Calls Try.prog 90 #[.pointer a] w fun e w' => e = .returned (.int .i64 (t.bh : Nat)) ∧ w' = w := by
  cases t using Tr.el with
  | nil => have e := h.out; simp only [At] at e; subst e; clear h; go_enter Try.func90, Try.ntmps90; go_wp2; go_ret; exact ⟨rfl, rfl⟩
  | node c l p r =>
    obtain ⟨b, la, ra, rfl, hb, -, -⟩ := h.out; have c7 := (ncells hb).c12; clear h hb
    go_enter Try.func90, Try.ntmps90; go_wp2; go_ret; exact ⟨rfl, rfl⟩
set_option maxHeartbeats 400000 in
theorem isRed_any (t : Tr) (a : Option Addr) (w : World) (h : Hid (At w t a)) :
    Calls Try.prog 76 #[.pointer a] w fun e w' => e = .returned (.bool t.red) ∧ w' = w := by
  cases t using Tr.el with
  | nil => have e := h.out; simp only [At] at e; subst e; clear h; go_enter Try.func76, Try.ntmps76; go_wp2; go_ret; exact ⟨rfl, rfl⟩
  | node c l p r =>
    obtain ⟨b, la, ra, rfl, hb, -, -⟩ := h.out; have c7 := (ncells hb).c4; clear h hb
    go_enter Try.func76, Try.ntmps76; go_wp2; go_ret; exact ⟨rfl, rfl⟩
end Go.Proofs.Ytpifjghhlcjedaa
