/- Pure, Kit, Rws -/
import Derived.Test.YtppefcnopkmhbaaGreatDoorRows
import Derived.Lib.Bytealg
import Derived.Outline
import Derived.Shelf.Bytes.SlCountOne
import Derived.WalkKit
import Derived.WalkLawsBesides
import Derived.WalkSpells
import Derived.ArgAppend
import Derived.Maps.AppendAt
namespace Go.Proofs.YtppefcnopkmhbaaGreatDoor

/-- is a byte a line end -/
def le (b : UInt8) : Bool := ((b.toNat : Int) == 10)
theorem le_ten (b : UInt8) : le b = (b == 10) := by
  unfold le
  rw [Bool.eq_iff_iff]
  simp only [beq_iff_eq]
  constructor
  · intro h
    have h1 : b.toNat = 10 := by omega
    exact UInt8.toNat_inj.1 (by rw [h1]; rfl)
  · rintro rfl; rfl
/-- how many line ends -/
def nl (t : List UInt8) : Nat := t.countP le
/-- byte number i, 0 beyond the end -/
def at8 (t : List UInt8) (i : Nat) : UInt8 := t.getD i 0
theorem at8_eq {t : List UInt8} {i : Nat} (h : i < t.length) : at8 t i = t[i] := by simp [at8, h]
theorem nl_le (t : List UInt8) : nl t ≤ t.length := List.countP_le_length
theorem nl_nil : nl [] = 0 := rfl
theorem nl_append (a b : List UInt8) : nl (a ++ b) = nl a + nl b := List.countP_append
theorem nl_count (t : List UInt8) : Lib.countByte t (10 : UInt8) = nl t := by
  unfold Lib.countByte nl List.count
  exact List.countP_congr fun b _ => by rw [le_ten]
theorem nl_take (t : List UInt8) (j : Nat) (h : j < t.length) : nl (t.take (j + 1)) = nl (t.take j) + if le (at8 t j) then 1 else 0 := by
  rw [List.take_succ_eq_append_getElem h, nl_append, at8_eq h]
  unfold nl
  simp [List.countP_cons]
theorem nl_mono (t : List UInt8) (i j : Nat) (h : i ≤ j) : nl (t.take i) ≤ nl (t.take j) := by
  have : t.take j = t.take i ++ (t.drop i).take (j - i) := by
    rw [← List.take_add]; congr 1; omega
  rw [this, nl_append]; omega
theorem nl_take_le (t : List UInt8) (i : Nat) : nl (t.take i) ≤ nl t := by
  have h := nl_append (t.take i) (t.drop i)
  rw [List.take_append_drop] at h
  omega

/-- s is where line number n begins -/
structure St (t : List UInt8) (n s : Nat) : Prop where
  low' : s ≤ t.length
  num : nl (t.take s) = n
  edge : s = 0 ∨ (0 < s ∧ le (at8 t (s - 1)) = true)

theorem St.zero (t : List UInt8) : St t 0 0 := ⟨Nat.zero_le _, rfl, .inl rfl⟩
theorem St.low {t : List UInt8} {n s : Nat} (h : St t n s) : n ≤ nl t := by rw [← h.num]; exact nl_take_le t s
theorem St.lt {t : List UInt8} {n s m p : Nat} (h : St t n s) (g : St t m p) (hp : s < p) : n < m := by
  have h1 := nl_mono t s (p - 1) (by omega)
  have h2 := nl_take t (p - 1) (by have := g.low'; omega)
  have h3 : le (at8 t (p - 1)) = true := by rcases g.edge with h | h; omega; exact h.2
  rw [h3, show p - 1 + 1 = p from by omega, g.num] at h2
  have := h.num
  simp at h2
  omega
theorem St.one {t : List UInt8} {n s p : Nat} (h : St t n s) (g : St t n p) : s = p := by
  rcases Nat.lt_trichotomy s p with hh | hh | hh
  · exact absurd (h.lt g hh) (Nat.lt_irrefl _)
  · exact hh
  · exact absurd (g.lt h hh) (Nat.lt_irrefl _)

/-- where the line of a place begins -/
def bg (t : List UInt8) : Nat → Nat
  | 0 => 0
  | i + 1 => if le (at8 t i) then i + 1 else bg t i
theorem bg_le (t : List UInt8) : ∀ i, bg t i ≤ i
  | 0 => Nat.le_refl _
  | i + 1 => by
    have := bg_le t i
    unfold bg; split <;> omega
theorem bg_st (t : List UInt8) : ∀ i, i ≤ t.length → St t (nl (t.take i)) (bg t i)
  | 0, _ => ⟨Nat.zero_le _, rfl, .inl rfl⟩
  | i + 1, h => by
    have ih := bg_st t i (by omega)
    have e := nl_take t i (by omega)
    unfold bg
    by_cases hb : le (at8 t i) = true
    · rw [if_pos hb]
      exact ⟨h, rfl, .inr ⟨by omega, by simpa using hb⟩⟩
    · rw [if_neg hb]
      rw [if_neg hb] at e
      rw [e]
      exact ih
/-- the last place among the first i whose line is number n -/
def ps (t : List UInt8) (n : Nat) : Nat → Nat
  | 0 => 0
  | i + 1 => if nl (t.take (i + 1)) = n then i + 1 else ps t n i
theorem ps_le (t : List UInt8) (n : Nat) : ∀ i, ps t n i ≤ i
  | 0 => Nat.le_refl _
  | i + 1 => by
    have := ps_le t n i
    unfold ps; split <;> omega
theorem ps_num (t : List UInt8) (n : Nat) : ∀ i, i ≤ t.length → n ≤ nl (t.take i) → nl (t.take (ps t n i)) = n
  | 0, _, h => by simp [nl] at h; rw [h]; rfl
  | i + 1, hi, h => by
    unfold ps
    split
    · assumption
    · have e := nl_take t i (by omega)
      refine ps_num t n i (by omega) ?_
      split at e <;> omega
/-- where line number n begins, of a line that there is -/
def sp (t : List UInt8) (n : Nat) : Nat := bg t (ps t n t.length)
theorem sp_st {t : List UInt8} {n : Nat} (h : n ≤ nl t) : St t n (sp t n) := by
  have h1 := ps_num t n t.length (Nat.le_refl _) (by rw [List.take_length]; exact h)
  have h2 := bg_st t (ps t n t.length) (ps_le t n _)
  rwa [h1] at h2
theorem sp_eq {t : List UInt8} {n s : Nat} (h : St t n s) : sp t n = s := (sp_st h.low).one h
theorem sp_le {t : List UInt8} {n : Nat} (h : n ≤ nl t) : sp t n ≤ t.length := (sp_st h).low'
/-- where the line ends that begins at s (or holds the place s) -/
def en (t : List UInt8) (s : Nat) : Nat := s + (t.drop s).findIdx le
theorem en_ge (t : List UInt8) (s : Nat) : s ≤ en t s := Nat.le_add_right _ _
theorem en_le {t : List UInt8} {s : Nat} (h : s ≤ t.length) : en t s ≤ t.length := by
  unfold en
  have : (t.drop s).findIdx le ≤ (t.drop s).length := List.findIdx_le_length
  simp at this
  omega
theorem en_none {t : List UInt8} {s j : Nat} (h1 : s ≤ j) (h2 : j < en t s) : le (at8 t j) = false := by
  unfold en at h2
  have h3 : (t.drop s).findIdx le ≤ (t.drop s).length := List.findIdx_le_length
  have hl : j < t.length := by simp at h3; omega
  have h := List.not_of_lt_findIdx (p := le) (xs := t.drop s) (i := j - s) (by omega)
  rw [at8_eq hl]
  simpa [show s + (j - s) = j from by omega] using h
theorem en_edge {t : List UInt8} {s : Nat} (h : en t s < t.length) : le (at8 t (en t s)) = true := by
  rw [at8_eq h]
  unfold en at *
  have h2 : (t.drop s).findIdx le < (t.drop s).length := by simp; omega
  have := List.findIdx_getElem (p := le) (xs := t.drop s) (w := h2)
  simpa using this
/-- an end, by its words -/
theorem en_eq {t : List UInt8} {s e : Nat} (h1 : s ≤ e) (h2 : e ≤ t.length) (h3 : ∀ j, s ≤ j → j < e → le (at8 t j) = false) (h4 : e = t.length ∨ le (at8 t e) = true) : en t s = e := by
  rcases Nat.lt_trichotomy (en t s) e with h | h | h
  · have hx := en_edge (t := t) (s := s) (by omega)
    rw [h3 _ (en_ge t s) h] at hx; simp at hx
  · exact h
  · rcases h4 with h4 | h4
    · have := en_le (t := t) (s := s) (by omega); omega
    · rw [en_none h1 h] at h4; simp at h4
theorem nl_flat {t : List UInt8} {s : Nat} : ∀ j, s + j ≤ en t s → s ≤ t.length → nl (t.take (s + j)) = nl (t.take s)
  | 0, _, _ => rfl
  | j + 1, h, hs => by
    have hl := en_le hs
    have := nl_take t (s + j) (by omega)
    rw [en_none (t := t) (s := s) (j := s + j) (by omega) (by omega)] at this
    rw [show s + (j + 1) = s + j + 1 from by omega, this, nl_flat j (by omega) hs]
    rfl
/-- the next line -/
theorem St.next {t : List UInt8} {n s : Nat} (h : St t n s) (he : en t s < t.length) : St t (n + 1) (en t s + 1) := by
  refine ⟨by omega, ?_, .inr ⟨by omega, by simpa using en_edge he⟩⟩
  have := nl_take t (en t s) he
  rw [en_edge he] at this
  rw [this]
  have h2 := nl_flat (t := t) (s := s) (en t s - s) (by have := en_ge t s; omega) h.low'
  rw [show s + (en t s - s) = en t s from by have := en_ge t s; omega] at h2
  rw [h2, h.num]
  rfl
/-- the last line -/
theorem St.last {t : List UInt8} {n s : Nat} (h : St t n s) (he : en t s = t.length) : nl t = n := by
  have h2 := nl_flat (t := t) (s := s) (en t s - s) (by have := en_ge t s; omega) h.low'
  rw [show s + (en t s - s) = en t s from by have := en_ge t s; omega, he, List.take_length] at h2
  rw [h2, h.num]
/-- bytes.IndexByte of a line end, in these words -/
theorem index_le (l : List UInt8) : Lib.indexByte l (10 : UInt8) = if l.findIdx le < l.length then (l.findIdx le : Int) else -1 := by
  induction l with
  | nil => rfl
  | cons b l ih =>
    unfold Lib.indexByte
    rw [← le_ten, List.findIdx_cons, ih]
    have hle : l.findIdx le ≤ l.length := List.findIdx_le_length
    cases hb : le b with
    | true => simp
    | false =>
      simp only [Bool.false_eq_true, if_false, cond_false]
      by_cases hl : l.findIdx le < l.length
      · rw [if_pos hl, if_pos (show l.findIdx le + 1 < (b :: l).length by rw [List.length_cons]; omega)]
        have h2 : ((l.findIdx le : Int) == -1) = false := by rw [beq_eq_false_iff_ne]; omega
        rw [h2]
        simp
      · rw [if_neg hl, if_neg (show ¬ l.findIdx le + 1 < (b :: l).length by rw [List.length_cons]; omega)]
        rfl
end Go.Proofs.YtppefcnopkmhbaaGreatDoor

namespace Go.Proofs.YtppefcnopkmhbaaGreatDoor
open Go.RowKit

/-- A fact that is no rewrite rule. -/
def Hid (p : Prop) : Prop := p
theorem Hid.out {p : Prop} (h : Hid p) : p := h
theorem Hid.mk' {p : Prop} (h : p) : Hid p := h

/-- The value '.slice ao n c' reads as the bytes l. -/
structure Tx (w : World) (ao : Option Addr) (n c : Nat) (l : List UInt8) : Prop where
  len : l.length = n
  cap : n ≤ c
  big : n ≤ 150000000000000
  nil : ao = none → c = 0
  cells : ∀ a, ao = some a → ∀ j, j < n → w.cell? (a.add j) = some (.int .u8 ((at8 l j).toNat : Int))

theorem lt_of_cell {w : World} {a : Addr} {v : Value} (h : w.cell? a = some v) : a.block < w.heap.size := by
  rcases Nat.lt_or_ge a.block w.heap.size with h' | h'
  · exact h'
  · simp [World.cell?, Array.getElem?_eq_none h'] at h
theorem Tx.keep {w w' : World} {ao : Option Addr} {n c : Nat} {l : List UInt8} (h : Tx w ao n c l) (hb : Below w.heap.size w w') : Tx w' ao n c l :=
  ⟨h.len, h.cap, h.big, h.nil, fun a ha j hj => by have h1 := h.cells a ha j hj; rw [hb.cell (lt_of_cell h1)]; exact h1⟩
theorem bAlloc {w W : World} (h : Below w.heap.size w W) (o : Obj) : Below w.heap.size w (W.alloc o) := h.alloc h.size o
theorem add_none (g o j : Nat) : (⟨g, o, none⟩ : Addr).add j = ⟨g, o + j, none⟩ := by unfold Addr.add; split <;> simp_all
theorem Tx.at {w : World} {ao : Option Addr} {n c : Nat} {l : List UInt8} (h : Tx w ao n c l) (hn : 0 < n) :
    ∃ g o, ao = some ⟨g, o, none⟩ ∧ ∀ j, j < n → w.cell? ⟨g, o + j, none⟩ = some (.int .u8 ((at8 l j).toNat : Int)) := by
  cases ao with
  | none => have := h.nil rfl; have := h.cap; omega
  | some a =>
    have h0 := h.cells a rfl 0 hn
    obtain ⟨g, o, s⟩ := a
    have hs : s = none := by simpa [Addr.add] using World.cell?_spot h0
    subst hs
    exact ⟨g, o, rfl, fun j hj => by have := h.cells _ rfl j hj; rwa [add_none] at this⟩

theorem bT {a b c : World} (h1 : Below a.heap.size a b) (h2 : Below b.heap.size b c) : Below a.heap.size a c := h1.trans (h2.mono h1.size)
theorem tx_nil (w : World) : Tx w none 0 0 [] := ⟨rfl, Nat.le_refl _, by omega, fun _ => rfl, fun a ha => by cases ha⟩
theorem Tx.none {w : World} {n c : Nat} {l : List UInt8} (h : Tx w none n c l) : n = 0 ∧ c = 0 ∧ l = [] := by
  have h1 := h.nil rfl
  have h2 := h.cap
  have h3 := h.len
  exact ⟨by omega, h1, List.eq_nil_of_length_eq_zero (by omega)⟩


/-- bytes as numbers -/
def nums (l : List UInt8) : List Int := l.map fun b => (b.toNat : Int)
theorem nums_length (l : List UInt8) : (nums l).length = l.length := by simp [nums]
theorem nums_getD (l : List UInt8) (i : Nat) (h : i < l.length) : (nums l).getD i 0 = ((at8 l i).toNat : Int) := by simp [nums, at8, h, List.getD]
theorem bytesOf_nums (l : List UInt8) : Lib.bytesOf (nums l) = l := by
  unfold Lib.bytesOf nums
  rw [List.map_map]
  conv => rhs; rw [← List.map_id l]
  apply List.map_congr_left
  intro b _
  simp
theorem Tx.hc {w : World} {a : Addr} {n c : Nat} {l : List UInt8} (h : Tx w (some a) n c l) : ∀ i, i < n → w.cell? (a.add i) = some (.int .u8 ((nums l).getD i 0)) := by
  intro i hi
  rw [h.cells a rfl i hi, nums_getD l i (by rw [h.len]; exact hi)]

theorem run_indexEmpty {P : Program} (w : World) (ao : Option Addr) (c : Nat) (cv : Int) : (Extern.BytealgIndexByte.indexByte #[.slice ao 0 c, .int .u8 cv]).run P w = .ok (.int .i64 (-1)) w := by
  cases ao <;> rfl

/-- what bytes.IndexByte of a line end answers -/
def ixI (l : List UInt8) (n : Nat) : Int := if l.findIdx le < n then (l.findIdx le : Int) else -1

theorem run_index {w : World} {ao : Option Addr} {n c : Nat} {l : List UInt8} (h : Tx w ao n c l) :
    (Extern.BytealgIndexByte.indexByte #[.slice ao n c, .int .u8 10]).run Tryz.prog w = .ok (.int .i64 (ixI l n)) w := by
  unfold ixI
  rcases Nat.eq_zero_or_pos n with h0 | h0
  · subst h0
    rw [run_indexEmpty]
    simp
  · obtain ⟨g, o, rfl, hc⟩ := h.at h0
    rw [Lib.run_indexByteSlice w g o n c (nums l) (by rw [nums_length]; exact h.len) (fun i hi => by rw [hc i hi, nums_getD l i (by rw [h.len]; exact hi)]) 10, bytesOf_nums]
    rw [show ((10 : Int).toNat.toUInt8) = (10 : UInt8) from rfl, index_le, h.len]

set_option maxRecDepth 8000 in
set_option maxHeartbeats 400000 in
theorem index_any (ao : Option Addr) (n c : Nat) (l : List UInt8) (w : World) (h : Hid (Tx w ao n c l)) :
    Calls Tryz.prog 134 #[.slice ao n c, .int .u8 10] w fun e w' => e = .returned (.int .i64 (ixI l n)) ∧ w' = w := by
  go_enter Tryz.func134, Tryz.ntmps134
  go_wp2
  rw [run_callFunc_extern Tryz.func146 (by kernel_rfl) (by kernel_rfl) (by kernel_rfl) (e := Extern.BytealgIndexByte.indexByte) (by kernel_rfl), run_index h.out]
  simp only [Result.andThen]
  rw [Oper.upon_value]
  go_wp2
  go_ret
  exact ⟨rfl, rfl⟩

theorem run_count {w : World} {ao : Option Addr} {n c : Nat} {l : List UInt8} (h : Tx w ao n c l) :
    (Extern.BytealgCount.count #[.slice ao n c, .int .u8 10]).run Tryz.prog w = .ok (.int .i64 (nl l : Int)) w := by
  cases ao with
  | none =>
    have h1 := h.nil rfl
    have h2 := h.cap
    have h3 := h.len
    have : l = [] := List.eq_nil_of_length_eq_zero (by omega)
    subst this
    rw [Lib.run_countNil]
    rfl
  | some a =>
    rw [Lib.run_countAt w a n c (nums l) (by rw [nums_length]; exact h.len) h.hc 10, bytesOf_nums]
    rw [show ((10 : Int).toNat.toUInt8) = (10 : UInt8) from rfl, nl_count]

set_option maxRecDepth 8000 in
set_option maxHeartbeats 400000 in
theorem bcount_any (ao : Option Addr) (n c b : Nat) (l : List UInt8) (w : World) (h : Hid (Tx w ao n c l)) (hb : w.cell? ⟨b, 0, none⟩ = some (.int .u8 10)) :
    Calls Tryz.prog 133 #[.slice ao n c, .slice (some ⟨b, 0, none⟩) 1 1] w fun e w' => e = .returned (.int .i64 (nl l : Int)) ∧ w' = w := by
  go_enter Tryz.func133, Tryz.ntmps133
  go_wp2
  rw [run_callFunc_extern Tryz.func145 (by kernel_rfl) (by kernel_rfl) (by kernel_rfl) (e := Extern.BytealgCount.count) (by kernel_rfl), run_count h.out]
  simp only [Result.andThen]
  rw [Oper.upon_value]
  go_wp2
  go_ret
  exact ⟨rfl, rfl⟩

set_option maxRecDepth 8000 in
set_option maxHeartbeats 400000 in
theorem lineEnds_any (ao : Option Addr) (n c : Nat) (l : List UInt8) (w : World) (h : Hid (Tx w ao n c l)) :
    Calls Tryz.prog 110 #[.slice ao n c] w fun e w' => e = .returned (.int .i64 (nl l : Int)) ∧ Below w.heap.size w w' := by
  go_enter Tryz.func110, Tryz.ntmps110
  go_wp2_with (go_at_call 133; refine (bcount_any ao n c _ l _ (h.out.keep (bAlloc (Below.refl _ _) _)) (by simp)).mono ?_; rintro e w' ⟨rfl, hw⟩; subst hw)
  go_ret
  exact ⟨rfl, bAlloc (Below.refl _ _) _⟩

set_option maxRecDepth 8000 in
set_option maxHeartbeats 400000 in
theorem count_any (ao : Option Addr) (n c : Nat) (l : List UInt8) (w : World) (h : Hid (Tx w ao n c l)) :
    Calls Tryz.prog 90 #[.slice ao n c] w fun e w' => e = .returned (.int .i64 ((nl l : Int) + 1)) ∧ Below w.heap.size w w' := by
  have hb1 : (nl l : Int) ≤ 150000000000000 := by have h1 := nl_le l; have h2 := h.out.len; have h3 := h.out.big; omega
  have hb0 : (0 : Int) ≤ (nl l : Int) := by omega
  go_enter Tryz.func90, Tryz.ntmps90
  go_wp2_with (go_at_call 110; refine (lineEnds_any ao n c l _ h).mono ?_; rintro e w' ⟨rfl, hw⟩)
  go_ret
  exact ⟨rfl, hw⟩
end Go.Proofs.YtppefcnopkmhbaaGreatDoor

namespace Go.Proofs.YtppefcnopkmhbaaGreatDoor
open Go.RowKit

theorem own_keep {w w' : World} {base e size n : Nat} {v : Value} {xs : List Value} (h : w.ownsRow base e size v n xs) (hb : Below w.heap.size w w') : w'.ownsRow base e size v n xs := by
  refine ⟨h.1, ?_⟩
  rcases h.2 with h0 | ⟨g, cap, cur, rfl, hb', hg, rest⟩
  · exact .inl h0
  · exact .inr ⟨g, cap, cur, rfl, hb', by rw [hb.block g (Array.getElem?_eq_some_iff.1 hg).1]; exact hg, rest⟩
theorem own_lower {w : World} {base base' e size n : Nat} {v : Value} {xs : List Value} (h : w.ownsRow base e size v n xs) (hb : base' ≤ base) : w.ownsRow base' e size v n xs := by
  refine ⟨h.1, ?_⟩
  rcases h.2 with h0 | ⟨g, cap, cur, rfl, hb', rest⟩
  · exact .inl h0
  · exact .inr ⟨g, cap, cur, rfl, by omega, rest⟩
theorem own_shape {w : World} {base e size n : Nat} {v : Value} {xs : List Value} (h : w.ownsRow base e size v n xs) : ∃ ao cap, v = .slice ao n cap := by
  rcases h.2 with ⟨rfl, rfl⟩ | ⟨g, cap, cur, rfl, _⟩
  · exact ⟨_, _, rfl⟩
  · exact ⟨_, _, rfl⟩
theorem lit_cells (w : World) (cs : Array Value) (e : TypeId) (j : Nat) (u : Value) (h : cs.toList[j]? = some u) : (w.alloc (.cells cs e)).cell? ((⟨w.heap.size, 0, none⟩ : Addr).add j) = some u := by
  rw [add_none, Nat.zero_add, World.cell?_alloc_mark, ← Array.getElem?_toList]; exact h

/-- a and b lie in no block together -/
def Far (a b : Value) : Prop := ∀ g, a.ownBlock = some g → b.ownBlock = some g → False
theorem Far.symm {a b : Value} (h : Far a b) : Far b a := fun g h1 h2 => h g h2 h1
theorem Far.ne {a b : Value} (h : Far a b) : a.ownBlock = none ∨ a.ownBlock ≠ b.ownBlock := by
  cases ha : a.ownBlock with
  | none => exact .inl rfl
  | some g => exact .inr fun e => h g ha e.symm
theorem Far.of {a b : Value} (h : a.ownBlock = none ∨ a.ownBlock ≠ b.ownBlock) : Far a b := fun g h1 h2 => by
  rcases h with h | h
  · rw [h] at h1; cases h1
  · exact h (h1.trans h2.symm)
theorem far_new {w w' : World} {base e s n e' s' n' : Nat} {x y : Value} {xs ys : List Value} (h : w.ownsRow base e s x n xs) (k : w'.ownsRow w.heap.size e' s' y n' ys) : Far x y := fun g h1 h2 => by
  have := (h.lt g h1).2
  have := (k.lt g h2).1
  omega
structure Rw where
  t : Nat
  s : Nat
  v : Value
  n : Nat
  xs : List Value

structure Rws (w W : World) (R : List Rw) : Prop where
  own : ∀ (i : Nat) (r : Rw), R[i]? = some r → W.ownsRow w.heap.size r.t r.s r.v r.n r.xs
  far : ∀ (i j : Nat) (p q : Rw), i ≠ j → R[i]? = some p → R[j]? = some q → Far p.v q.v
  bel : Below w.heap.size w W

theorem Rws.keep {w W W' : World} {R : List Rw} (h : Rws w W R) (hb : Below W.heap.size W W') : Rws w W' R :=
  ⟨fun i r hi => own_keep (h.own i r hi) hb, h.far, bT h.bel hb⟩
theorem Rws.alloc {w W : World} {R : List Rw} (h : Rws w W R) (o : Obj) : Rws w (W.alloc o) R := h.keep (bAlloc (Below.refl _ _) o)
theorem Rws.drew {w W : World} {R : List Rw} (h : Rws w W R) : Rws w W.drew R := h.keep (Below.refl _ _).drew
theorem Rws.size {w W : World} {R : List Rw} (h : Rws w W R) : w.heap.size ≤ W.heap.size := h.bel.size
theorem Rws.nil (w : World) : Rws w w [] := ⟨fun i r hi => by simp at hi, fun i j p q _ hi => by simp at hi, Below.refl _ _⟩

theorem snoc_at {α : Type} {R : List α} {r x : α} {i : Nat} (h : (R ++ [r])[i]? = some x) : R[i]? = some x ∨ (i = R.length ∧ x = r) := by
  rw [List.getElem?_append] at h
  split at h
  · exact .inl h
  · rename_i hi
    right
    have := (List.getElem?_eq_some_iff.1 h).1
    simp at this
    have e : i = R.length := by omega
    subst e
    simp at h
    exact ⟨rfl, h.symm⟩
/-- one row more, in new memory -/
theorem Rws.new {w W W' : World} {R : List Rw} {t s n : Nat} {v : Value} {xs : List Value} (h : Rws w W R) (hb : Below W.heap.size W W') (ho : W'.ownsRow W.heap.size t s v n xs) : Rws w W' (R ++ [⟨t, s, v, n, xs⟩]) := by
  have hk := h.keep hb
  refine ⟨fun i r hi => ?_, fun i j p q hij hi hj => ?_, hk.bel⟩
  · rcases snoc_at hi with hi | ⟨_, rfl⟩
    · exact hk.own i r hi
    · exact own_lower ho h.size
  · rcases snoc_at hi with hi | ⟨e1, rfl⟩
    · rcases snoc_at hj with hj | ⟨e2, rfl⟩
      · exact h.far i j p q hij hi hj
      · exact far_new (h.own i p hi) ho
    · rcases snoc_at hj with hj | ⟨e2, rfl⟩
      · exact (far_new (h.own j q hj) ho).symm
      · omega
theorem set_at {α : Type} {R : List α} {r x : α} {i j : Nat} (h : (R.set i r)[j]? = some x) : (j ≠ i ∧ R[j]? = some x) ∨ (j = i ∧ x = r) := by
  rw [List.getElem?_set] at h
  by_cases e : i = j
  · rw [if_pos e] at h
    split at h
    · injection h with h; exact .inr ⟨e.symm, h.symm⟩
    · cases h
  · rw [if_neg e] at h
    exact .inl ⟨Ne.symm e, h⟩
/-- one row is grown -/
theorem Rws.grow {w W W' : World} {R : List Rw} {i : Nat} {r : Rw} {t s n : Nat} {v : Value} {xs : List Value} (h : Rws w W R) (hi : R[i]? = some r) (hg : W.grownBy W' r.v.ownBlock) (ho : W'.ownsRow w.heap.size t s v n xs)
    (hf : v.ownBlock = r.v.ownBlock ∨ ∃ q, v.ownBlock = some q ∧ W.heap.size ≤ q) : Rws w W' (R.set i ⟨t, s, v, n, xs⟩) := by
  have hfar : ∀ j q, j ≠ i → R[j]? = some q → Far q.v v := fun j q hj hq g h1 h2 => by
    rcases hf with e | ⟨k, e, hk⟩
    · exact h.far j i q r hj hq hi g h1 (by rw [← e]; exact h2)
    · have := ((h.own j q hq).lt g h1).2
      rw [e] at h2; simp at h2; omega
  refine ⟨fun j q hj => ?_, fun j k p q hjk hj hk => ?_, h.bel.grown hg h.size (fun k hk => ((h.own i r hi).lt k hk).1)⟩
  · rcases set_at hj with ⟨hne, hj⟩ | ⟨_, rfl⟩
    · exact (h.own j q hj).kept hg (h.far j i q r hne hj hi).ne
    · exact ho
  · rcases set_at hj with ⟨hne, hj⟩ | ⟨e1, rfl⟩
    · rcases set_at hk with ⟨hne2, hk⟩ | ⟨e2, rfl⟩
      · exact h.far j k p q hjk hj hk
      · exact hfar j p hne hj
    · rcases set_at hk with ⟨hne2, hk⟩ | ⟨e2, rfl⟩
      · exact (hfar k q hne2 hk).symm
      · omega
/-- one cell of a row is stored -/
theorem Rws.store {w W : World} {R : List Rw} {i t s g n c : Nat} {xs : List Value} (h : Rws w W R) (hi : R[i]? = some ⟨t, s, .slice (some ⟨g, 0, none⟩) n c, n, xs⟩) (j : Nat) (u : Value) :
    Rws w (W.setCell ⟨g, j, none⟩ u) (R.set i ⟨t, s, .slice (some ⟨g, 0, none⟩) n c, n, xs.set j u⟩) := by
  obtain ⟨h1, h2⟩ := (h.own i _ hi).stored j u
  exact h.grow hi h2 h1 (.inl rfl)

/-- cells that can be appended -/
def Srv (w : World) (u : Value) (m : Nat) (news : List Value) : Prop := (u = .slice none 0 0 ∧ m = 0 ∧ news = []) ∨ ∃ ad c, u = .slice (some ad) m c ∧ ∀ (j : Nat) (t : Value), news[j]? = some t → w.cell? (ad.add j) = some t
theorem own_srv {w : World} {base e s n : Nat} {v : Value} {xs : List Value} (h : w.ownsRow base e s v n xs) : Srv w v n xs := by
  rcases h.2 with ⟨rfl, h0⟩ | ⟨g, cap, cur, rfl, hb, hg, _⟩
  · subst h0
    exact .inl ⟨rfl, rfl, List.eq_nil_of_length_eq_zero (by have := h.1; omega)⟩
  · exact .inr ⟨⟨g, 0, none⟩, cap, rfl, h.cells rfl⟩
theorem Srv.keep {w w' : World} {u : Value} {m : Nat} {news : List Value} (h : Srv w u m news) (hb : Below w.heap.size w w') : Srv w' u m news := by
  rcases h with h | ⟨ad, c, hu, h⟩
  · exact .inl h
  · refine .inr ⟨ad, c, hu, fun j t hj => ?_⟩
    have hc := h j t hj
    rw [hb.cell (World.block_lt_of_cell? w _ hc)]; exact hc
/-- append of whatever there is, to a list that is owned -/
theorem append_srv {w : World} {ops : Array Oper} {rest : List Oper} {o : Oper} {a : Act} {Q : Exit → Act → World → Prop} (hgd : o.guard = none) (s x : Operand) (t : Nat)
    (ho : o.op = .call { callee := .builtin .append, args := #[s, x], argTypes := #[t, t] })
    (base e : Nat) (i : TypeInfo) (z : Value) (size bytes : Nat) (ht : Tryz.prog.underlying t = some (.slice e)) (hi : Tryz.prog.info? e = some i) (hz : i.zero = some z) (hsize : i.size = size) (hby : i.bytes = bytes) (hzs : z.cells.size = size) (hsz : 0 < size)
    (v : Value) (n : Nat) (xs : List Value) (hs : a.eval s = v) (hown : w.ownsRow base e size v n xs)
    (u : Value) (m : Nat) (news : List Value) (hx : a.eval x = u) (hsrc : Srv w u m news) (hl : news.length = m * size)
    (h1 : ∀ u ∈ news, u.oneCell' = true) (h63 : n + m ≤ maxLen) (hb : (n + m) * bytes ≤ 140737488355328) (hbase : base ≤ w.heap.size)
    (h : ∀ v' w', w'.ownsRow base e size v' (n + m) (xs ++ news) → w.grownBy w' v.ownBlock → (v'.ownBlock = v.ownBlock ∨ ∃ q, v'.ownBlock = some q ∧ w.heap.size ≤ q) → wpList Tryz.prog ops Q rest (a.put o.dst v') w') :
    wpList Tryz.prog ops Q (o :: rest) a w := by
  rcases hsrc with ⟨hu, h0, h2⟩ | ⟨ad, c, hu, hcell⟩
  · subst hu h0 h2
    refine wpList_plain hgd fun K hK => ?_
    have hrun := run_append_owned_none (P := Tryz.prog) (w := w) base t o.type e i size ht hi v n xs hown
    unfold Oper.wp
    simp [execOp, ho, resolve, invoke, builtin, hs, hx, hrun, Result.andThen]
    exact hK _ _ (h v w (by simpa using hown) ⟨rfl, rfl, rfl, Nat.le_refl _, fun _ _ _ => rfl⟩ (.inl rfl))
  · subst hu
    refine wpList_append_own_at _ hgd s x t ho base e i z size bytes ht hi hz hsize hby hzs hsz v n xs hs hown ad m c news hx hl hcell h1 h63 hb hbase ?_
    intro v' w' g1 g2 _ g4
    refine h v' w' g1 g2 ?_
    rcases g4 with e | e
    · exact .inl e
    · exact .inr ⟨_, e, Nat.le_refl _⟩
end Go.Proofs.YtppefcnopkmhbaaGreatDoor
