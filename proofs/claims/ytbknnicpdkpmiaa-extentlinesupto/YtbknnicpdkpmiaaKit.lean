/- A list of bytes in memory (Tx), and the contracts of bytes.Count, bytes.IndexByte, bytes.LastIndexByte of a line end. -/
import Derived.Outline
import Derived.Shelf.Bytes.SlCountOne
import Derived.Test.YtbknnicpdkpmiaaPure
import Derived.WalkKit
import Derived.WalkLawsBesides
import Derived.WalkSpells
namespace Go.Proofs.Ytbknnicpdkpmiaa
open Go.RowKit

/-- A fact that is no rewrite rule. -/
def Hid (p : Prop) : Prop := p
theorem Hid.out {p : Prop} (h : Hid p) : p := h
theorem Hid.mk' {p : Prop} (h : p) : Hid p := h

/-- The value '.slice ao n c' reads as the bytes l. -/
structure Tx (w : World) (ao : Option Addr) (n c : Nat) (l : List UInt8) : Prop where
  len : l.length = n
  cap : n ≤ c
  big : n ≤ 140737488355328
  nil : ao = none → c = 0
  cells : ∀ a, ao = some a → ∀ j, j < n → w.cell? (a.add j) = some (.int .u8 ((at8 l j).toNat : Int))

theorem lt_of_cell {w : World} {a : Addr} {v : Value} (h : w.cell? a = some v) : a.block < w.heap.size := by
  rcases Nat.lt_or_ge a.block w.heap.size with h' | h'
  · exact h'
  · simp [World.cell?, Array.getElem?_eq_none h'] at h
theorem Tx.keep {w w' : World} {ao : Option Addr} {n c : Nat} {l : List UInt8} (h : Tx w ao n c l) (hb : Below w.heap.size w w') : Tx w' ao n c l :=
  ⟨h.len, h.cap, h.big, h.nil, fun a ha j hj => by have h1 := h.cells a ha j hj; rw [hb.cell (lt_of_cell h1)]; exact h1⟩
theorem bAlloc {w W : World} (h : Below w.heap.size w W) (o : Obj) : Below w.heap.size w (W.alloc o) := h.alloc h.size o
theorem add_none (g o j : Nat) : (⟨g, o, none⟩ : Addr).add j = ⟨g, o + j, none⟩ := by unfold Addr.add; split <;> simp_all
theorem Tx.at {w : World} {ao : Option Addr} {n c : Nat} {l : List UInt8} (h : Tx w ao n c l) (hn : 0 < n) :
    ∃ g o, ao = some ⟨g, o, none⟩ ∧ ∀ j, j < n → w.cell? ⟨g, o + j, none⟩ = some (.int .u8 ((at8 l j).toNat : Int)) := by
  cases ao with
  | none => have := h.nil rfl; have := h.cap; omega
  | some a =>
    have h0 := h.cells a rfl 0 hn
    obtain ⟨g, o, s⟩ := a
    have hs : s = none := by simpa [Addr.add] using World.cell?_spot h0
    subst hs
    exact ⟨g, o, rfl, fun j hj => by have := h.cells _ rfl j hj; rwa [add_none] at this⟩

theorem bT {a b c : World} (h1 : Below a.heap.size a b) (h2 : Below b.heap.size b c) : Below a.heap.size a c := h1.trans (h2.mono h1.size)
theorem tx_nil (w : World) : Tx w none 0 0 [] := ⟨rfl, Nat.le_refl _, by omega, fun _ => rfl, fun a ha => by cases ha⟩
theorem Tx.none {w : World} {n c : Nat} {l : List UInt8} (h : Tx w none n c l) : n = 0 ∧ c = 0 ∧ l = [] := by
  have h1 := h.nil rfl
  have h2 := h.cap
  have h3 := h.len
  exact ⟨by omega, h1, List.eq_nil_of_length_eq_zero (by omega)⟩


/-- bytes as numbers -/
def nums (l : List UInt8) : List Int := l.map fun b => (b.toNat : Int)
theorem nums_length (l : List UInt8) : (nums l).length = l.length := by simp [nums]
theorem nums_getD (l : List UInt8) (i : Nat) (h : i < l.length) : (nums l).getD i 0 = ((at8 l i).toNat : Int) := by simp [nums, at8, h, List.getD]
theorem bytesOf_nums (l : List UInt8) : Lib.bytesOf (nums l) = l := by
  unfold Lib.bytesOf nums
  rw [List.map_map]
  conv => rhs; rw [← List.map_id l]
  apply List.map_congr_left
  intro b _
  simp
theorem Tx.hc {w : World} {a : Addr} {n c : Nat} {l : List UInt8} (h : Tx w (some a) n c l) : ∀ i, i < n → w.cell? (a.add i) = some (.int .u8 ((nums l).getD i 0)) := by
  intro i hi
  rw [h.cells a rfl i hi, nums_getD l i (by rw [h.len]; exact hi)]

theorem run_indexEmpty {P : Program} (w : World) (ao : Option Addr) (c : Nat) (cv : Int) : (Extern.BytealgIndexByte.indexByte #[.slice ao 0 c, .int .u8 cv]).run P w = .ok (.int .i64 (-1)) w := by
  cases ao <;> rfl

/-- what bytes.IndexByte of a line end answers -/
def ixI (l : List UInt8) (n : Nat) : Int := if l.findIdx le < n then (l.findIdx le : Int) else -1

theorem run_index {w : World} {ao : Option Addr} {n c : Nat} {l : List UInt8} (h : Tx w ao n c l) :
    (Extern.BytealgIndexByte.indexByte #[.slice ao n c, .int .u8 10]).run Try.prog w = .ok (.int .i64 (ixI l n)) w := by
  unfold ixI
  rcases Nat.eq_zero_or_pos n with h0 | h0
  · subst h0
    rw [run_indexEmpty]
    simp
  · obtain ⟨g, o, rfl, hc⟩ := h.at h0
    rw [Lib.run_indexByteSlice w g o n c (nums l) (by rw [nums_length]; exact h.len) (fun i hi => by rw [hc i hi, nums_getD l i (by rw [h.len]; exact hi)]) 10, bytesOf_nums]
    rw [show ((10 : Int).toNat.toUInt8) = (10 : UInt8) from rfl, index_le, h.len]

set_option maxRecDepth 8000 in
set_option maxHeartbeats 400000 in
theorem index_any (ao : Option Addr) (n c : Nat) (l : List UInt8) (w : World) (h : Hid (Tx w ao n c l)) :
    Calls Try.prog 38 #[.slice ao n c, .int .u8 10] w fun e w' => e = .returned (.int .i64 (ixI l n)) ∧ w' = w := by
  go_enter Try.func38, Try.ntmps38
  go_wp2
  rw [run_callFunc_extern Try.func42 (by kernel_rfl) (by kernel_rfl) (by kernel_rfl) (e := Extern.BytealgIndexByte.indexByte) (by kernel_rfl), run_index h.out]
  simp only [Result.andThen]
  rw [Oper.upon_value]
  go_wp2
  go_ret
  exact ⟨rfl, rfl⟩

theorem run_count {w : World} {ao : Option Addr} {n c : Nat} {l : List UInt8} (h : Tx w ao n c l) :
    (Extern.BytealgCount.count #[.slice ao n c, .int .u8 10]).run Try.prog w = .ok (.int .i64 (nl l : Int)) w := by
  cases ao with
  | none =>
    have h1 := h.nil rfl
    have h2 := h.cap
    have h3 := h.len
    have : l = [] := List.eq_nil_of_length_eq_zero (by omega)
    subst this
    rw [Lib.run_countNil]
    rfl
  | some a =>
    rw [Lib.run_countAt w a n c (nums l) (by rw [nums_length]; exact h.len) h.hc 10, bytesOf_nums]
    rw [show ((10 : Int).toNat.toUInt8) = (10 : UInt8) from rfl, nl_count]

set_option maxRecDepth 8000 in
set_option maxHeartbeats 400000 in
theorem bcount_any (ao : Option Addr) (n c b : Nat) (l : List UInt8) (w : World) (h : Hid (Tx w ao n c l)) (hb : w.cell? ⟨b, 0, none⟩ = some (.int .u8 10)) :
    Calls Try.prog 41 #[.slice ao n c, .slice (some ⟨b, 0, none⟩) 1 1] w fun e w' => e = .returned (.int .i64 (nl l : Int)) ∧ w' = w := by
  go_enter Try.func41, Try.ntmps41
  go_wp2
  rw [run_callFunc_extern Try.func45 (by kernel_rfl) (by kernel_rfl) (by kernel_rfl) (e := Extern.BytealgCount.count) (by kernel_rfl), run_count h.out]
  simp only [Result.andThen]
  rw [Oper.upon_value]
  go_wp2
  go_ret
  exact ⟨rfl, rfl⟩

set_option maxRecDepth 8000 in
set_option maxHeartbeats 400000 in
theorem lineEnds_any (ao : Option Addr) (n c : Nat) (l : List UInt8) (w : World) (h : Hid (Tx w ao n c l)) :
    Calls Try.prog 37 #[.slice ao n c] w fun e w' => e = .returned (.int .i64 (nl l : Int)) ∧ Below w.heap.size w w' := by
  go_enter Try.func37, Try.ntmps37
  go_wp2_with (go_at_call 41; refine (bcount_any ao n c _ l _ (h.out.keep (bAlloc (Below.refl _ _) _)) (by simp)).mono ?_; rintro e w' ⟨rfl, hw⟩; subst hw)
  go_ret
  exact ⟨rfl, bAlloc (Below.refl _ _) _⟩

set_option maxRecDepth 8000 in
set_option maxHeartbeats 400000 in
theorem count_any (ao : Option Addr) (n c : Nat) (l : List UInt8) (w : World) (h : Hid (Tx w ao n c l)) :
    Calls Try.prog 31 #[.slice ao n c] w fun e w' => e = .returned (.int .i64 ((nl l : Int) + 1)) ∧ Below w.heap.size w w' := by
  have hb1 : (nl l : Int) ≤ 140737488355328 := by have h1 := nl_le l; have h2 := h.out.len; have h3 := h.out.big; omega
  have hb0 : (0 : Int) ≤ (nl l : Int) := by omega
  go_enter Try.func31, Try.ntmps31
  go_wp2_with (go_at_call 37; refine (lineEnds_any ao n c l _ h).mono ?_; rintro e w' ⟨rfl, hw⟩)
  go_ret
  exact ⟨rfl, hw⟩
end Go.Proofs.Ytbknnicpdkpmiaa
