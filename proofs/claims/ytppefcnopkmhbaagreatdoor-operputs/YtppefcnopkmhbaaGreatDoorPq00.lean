/- Pure, Kit, Line, Fns -/
import Derived.Test.YtppefcnopkmhbaaGreatDoorRows
import Derived.Lib.Bytealg
import Derived.Outline
import Derived.Shelf.Bytes.SlCountOne
import Derived.WalkKit
import Derived.WalkLawsBesides
import Derived.WalkSpells
namespace Go.Proofs.YtppefcnopkmhbaaGreatDoor

/-- is a byte a line end -/
def le (b : UInt8) : Bool := ((b.toNat : Int) == 10)
theorem le_ten (b : UInt8) : le b = (b == 10) := by
  unfold le
  rw [Bool.eq_iff_iff]
  simp only [beq_iff_eq]
  constructor
  · intro h
    have h1 : b.toNat = 10 := by omega
    exact UInt8.toNat_inj.1 (by rw [h1]; rfl)
  · rintro rfl; rfl
/-- how many line ends -/
def nl (t : List UInt8) : Nat := t.countP le
/-- byte number i, 0 beyond the end -/
def at8 (t : List UInt8) (i : Nat) : UInt8 := t.getD i 0
theorem at8_eq {t : List UInt8} {i : Nat} (h : i < t.length) : at8 t i = t[i] := by simp [at8, h]
theorem nl_le (t : List UInt8) : nl t ≤ t.length := List.countP_le_length
theorem nl_nil : nl [] = 0 := rfl
theorem nl_append (a b : List UInt8) : nl (a ++ b) = nl a + nl b := List.countP_append
theorem nl_count (t : List UInt8) : Lib.countByte t (10 : UInt8) = nl t := by
  unfold Lib.countByte nl List.count
  exact List.countP_congr fun b _ => by rw [le_ten]
theorem nl_take (t : List UInt8) (j : Nat) (h : j < t.length) : nl (t.take (j + 1)) = nl (t.take j) + if le (at8 t j) then 1 else 0 := by
  rw [List.take_succ_eq_append_getElem h, nl_append, at8_eq h]
  unfold nl
  simp [List.countP_cons]
theorem nl_mono (t : List UInt8) (i j : Nat) (h : i ≤ j) : nl (t.take i) ≤ nl (t.take j) := by
  have : t.take j = t.take i ++ (t.drop i).take (j - i) := by
    rw [← List.take_add]; congr 1; omega
  rw [this, nl_append]; omega
theorem nl_take_le (t : List UInt8) (i : Nat) : nl (t.take i) ≤ nl t := by
  have h := nl_append (t.take i) (t.drop i)
  rw [List.take_append_drop] at h
  omega

/-- s is where line number n begins -/
structure St (t : List UInt8) (n s : Nat) : Prop where
  low' : s ≤ t.length
  num : nl (t.take s) = n
  edge : s = 0 ∨ (0 < s ∧ le (at8 t (s - 1)) = true)

theorem St.zero (t : List UInt8) : St t 0 0 := ⟨Nat.zero_le _, rfl, .inl rfl⟩
theorem St.low {t : List UInt8} {n s : Nat} (h : St t n s) : n ≤ nl t := by rw [← h.num]; exact nl_take_le t s
theorem St.lt {t : List UInt8} {n s m p : Nat} (h : St t n s) (g : St t m p) (hp : s < p) : n < m := by
  have h1 := nl_mono t s (p - 1) (by omega)
  have h2 := nl_take t (p - 1) (by have := g.low'; omega)
  have h3 : le (at8 t (p - 1)) = true := by rcases g.edge with h | h; omega; exact h.2
  rw [h3, show p - 1 + 1 = p from by omega, g.num] at h2
  have := h.num
  simp at h2
  omega
theorem St.one {t : List UInt8} {n s p : Nat} (h : St t n s) (g : St t n p) : s = p := by
  rcases Nat.lt_trichotomy s p with hh | hh | hh
  · exact absurd (h.lt g hh) (Nat.lt_irrefl _)
  · exact hh
  · exact absurd (g.lt h hh) (Nat.lt_irrefl _)

/-- where the line of a place begins -/
def bg (t : List UInt8) : Nat → Nat
  | 0 => 0
  | i + 1 => if le (at8 t i) then i + 1 else bg t i
theorem bg_le (t : List UInt8) : ∀ i, bg t i ≤ i
  | 0 => Nat.le_refl _
  | i + 1 => by
    have := bg_le t i
    unfold bg; split <;> omega
theorem bg_st (t : List UInt8) : ∀ i, i ≤ t.length → St t (nl (t.take i)) (bg t i)
  | 0, _ => ⟨Nat.zero_le _, rfl, .inl rfl⟩
  | i + 1, h => by
    have ih := bg_st t i (by omega)
    have e := nl_take t i (by omega)
    unfold bg
    by_cases hb : le (at8 t i) = true
    · rw [if_pos hb]
      exact ⟨h, rfl, .inr ⟨by omega, by simpa using hb⟩⟩
    · rw [if_neg hb]
      rw [if_neg hb] at e
      rw [e]
      exact ih
theorem bg_none (t : List UInt8) : ∀ i j, bg t i ≤ j → j < i → le (at8 t j) = false
  | 0, j, _, h => by omega
  | i + 1, j, h1, h2 => by
    unfold bg at h1
    by_cases hb : le (at8 t i) = true
    · rw [if_pos hb] at h1; omega
    · rw [if_neg hb] at h1
      rcases Nat.lt_or_ge j i with h | h
      · exact bg_none t i j h1 h
      · obtain rfl : j = i := by omega
        simpa using hb

/-- the last place among the first i whose line is number n -/
def ps (t : List UInt8) (n : Nat) : Nat → Nat
  | 0 => 0
  | i + 1 => if nl (t.take (i + 1)) = n then i + 1 else ps t n i
theorem ps_le (t : List UInt8) (n : Nat) : ∀ i, ps t n i ≤ i
  | 0 => Nat.le_refl _
  | i + 1 => by
    have := ps_le t n i
    unfold ps; split <;> omega
theorem ps_num (t : List UInt8) (n : Nat) : ∀ i, i ≤ t.length → n ≤ nl (t.take i) → nl (t.take (ps t n i)) = n
  | 0, _, h => by simp [nl] at h; rw [h]; rfl
  | i + 1, hi, h => by
    unfold ps
    split
    · assumption
    · have e := nl_take t i (by omega)
      refine ps_num t n i (by omega) ?_
      split at e <;> omega
/-- where line number n begins, of a line that there is -/
def sp (t : List UInt8) (n : Nat) : Nat := bg t (ps t n t.length)
theorem sp_st {t : List UInt8} {n : Nat} (h : n ≤ nl t) : St t n (sp t n) := by
  have h1 := ps_num t n t.length (Nat.le_refl _) (by rw [List.take_length]; exact h)
  have h2 := bg_st t (ps t n t.length) (ps_le t n _)
  rwa [h1] at h2
theorem sp_eq {t : List UInt8} {n s : Nat} (h : St t n s) : sp t n = s := (sp_st h.low).one h
theorem sp_le {t : List UInt8} {n : Nat} (h : n ≤ nl t) : sp t n ≤ t.length := (sp_st h).low'
theorem sp_of (t : List UInt8) (i : Nat) (h : i ≤ t.length) : sp t (nl (t.take i)) = bg t i := sp_eq (bg_st t i h)

/-- where the line ends that begins at s (or holds the place s) -/
def en (t : List UInt8) (s : Nat) : Nat := s + (t.drop s).findIdx le
theorem en_ge (t : List UInt8) (s : Nat) : s ≤ en t s := Nat.le_add_right _ _
theorem en_le {t : List UInt8} {s : Nat} (h : s ≤ t.length) : en t s ≤ t.length := by
  unfold en
  have : (t.drop s).findIdx le ≤ (t.drop s).length := List.findIdx_le_length
  simp at this
  omega
theorem en_none {t : List UInt8} {s j : Nat} (h1 : s ≤ j) (h2 : j < en t s) : le (at8 t j) = false := by
  unfold en at h2
  have h3 : (t.drop s).findIdx le ≤ (t.drop s).length := List.findIdx_le_length
  have hl : j < t.length := by simp at h3; omega
  have h := List.not_of_lt_findIdx (p := le) (xs := t.drop s) (i := j - s) (by omega)
  rw [at8_eq hl]
  simpa [show s + (j - s) = j from by omega] using h
theorem en_edge {t : List UInt8} {s : Nat} (h : en t s < t.length) : le (at8 t (en t s)) = true := by
  rw [at8_eq h]
  unfold en at *
  have h2 : (t.drop s).findIdx le < (t.drop s).length := by simp; omega
  have := List.findIdx_getElem (p := le) (xs := t.drop s) (w := h2)
  simpa using this
/-- an end, by its words -/
theorem en_eq {t : List UInt8} {s e : Nat} (h1 : s ≤ e) (h2 : e ≤ t.length) (h3 : ∀ j, s ≤ j → j < e → le (at8 t j) = false) (h4 : e = t.length ∨ le (at8 t e) = true) : en t s = e := by
  rcases Nat.lt_trichotomy (en t s) e with h | h | h
  · have hx := en_edge (t := t) (s := s) (by omega)
    rw [h3 _ (en_ge t s) h] at hx; simp at hx
  · exact h
  · rcases h4 with h4 | h4
    · have := en_le (t := t) (s := s) (by omega); omega
    · rw [en_none h1 h] at h4; simp at h4
theorem nl_flat {t : List UInt8} {s : Nat} : ∀ j, s + j ≤ en t s → s ≤ t.length → nl (t.take (s + j)) = nl (t.take s)
  | 0, _, _ => rfl
  | j + 1, h, hs => by
    have hl := en_le hs
    have := nl_take t (s + j) (by omega)
    rw [en_none (t := t) (s := s) (j := s + j) (by omega) (by omega)] at this
    rw [show s + (j + 1) = s + j + 1 from by omega, this, nl_flat j (by omega) hs]
    rfl
/-- the next line -/
theorem St.next {t : List UInt8} {n s : Nat} (h : St t n s) (he : en t s < t.length) : St t (n + 1) (en t s + 1) := by
  refine ⟨by omega, ?_, .inr ⟨by omega, by simpa using en_edge he⟩⟩
  have := nl_take t (en t s) he
  rw [en_edge he] at this
  rw [this]
  have h2 := nl_flat (t := t) (s := s) (en t s - s) (by have := en_ge t s; omega) h.low'
  rw [show s + (en t s - s) = en t s from by have := en_ge t s; omega] at h2
  rw [h2, h.num]
  rfl
/-- the last line -/
theorem St.last {t : List UInt8} {n s : Nat} (h : St t n s) (he : en t s = t.length) : nl t = n := by
  have h2 := nl_flat (t := t) (s := s) (en t s - s) (by have := en_ge t s; omega) h.low'
  rw [show s + (en t s - s) = en t s from by have := en_ge t s; omega, he, List.take_length] at h2
  rw [h2, h.num]
/-- a place is in its line -/
theorem place_en {t : List UInt8} {i : Nat} (h : i ≤ t.length) : i ≤ en t (bg t i) := by
  rcases Nat.lt_or_ge (en t (bg t i)) i with hl | hl
  · have h1 := bg_none t i _ (en_ge t _) hl
    rw [en_edge (by omega)] at h1
    simp at h1
  · exact hl

/-- bytes.IndexByte of a line end, in these words -/
theorem index_le (l : List UInt8) : Lib.indexByte l (10 : UInt8) = if l.findIdx le < l.length then (l.findIdx le : Int) else -1 := by
  induction l with
  | nil => rfl
  | cons b l ih =>
    unfold Lib.indexByte
    rw [← le_ten, List.findIdx_cons, ih]
    have hle : l.findIdx le ≤ l.length := List.findIdx_le_length
    cases hb : le b with
    | true => simp
    | false =>
      simp only [Bool.false_eq_true, if_false, cond_false]
      by_cases hl : l.findIdx le < l.length
      · rw [if_pos hl, if_pos (show l.findIdx le + 1 < (b :: l).length by rw [List.length_cons]; omega)]
        have h2 : ((l.findIdx le : Int) == -1) = false := by rw [beq_eq_false_iff_ne]; omega
        rw [h2]
        simp
      · rw [if_neg hl, if_neg (show ¬ l.findIdx le + 1 < (b :: l).length by rw [List.length_cons]; omega)]
        rfl
end Go.Proofs.YtppefcnopkmhbaaGreatDoor

namespace Go.Proofs.YtppefcnopkmhbaaGreatDoor
open Go.RowKit

/-- A fact that is no rewrite rule. -/
def Hid (p : Prop) : Prop := p
theorem Hid.out {p : Prop} (h : Hid p) : p := h
theorem Hid.mk' {p : Prop} (h : p) : Hid p := h

/-- The value '.slice ao n c' reads as the bytes l. -/
structure Tx (w : World) (ao : Option Addr) (n c : Nat) (l : List UInt8) : Prop where
  len : l.length = n
  cap : n ≤ c
  big : n ≤ 150000000000000
  nil : ao = none → c = 0
  cells : ∀ a, ao = some a → ∀ j, j < n → w.cell? (a.add j) = some (.int .u8 ((at8 l j).toNat : Int))

theorem lt_of_cell {w : World} {a : Addr} {v : Value} (h : w.cell? a = some v) : a.block < w.heap.size := by
  rcases Nat.lt_or_ge a.block w.heap.size with h' | h'
  · exact h'
  · simp [World.cell?, Array.getElem?_eq_none h'] at h
theorem Tx.keep {w w' : World} {ao : Option Addr} {n c : Nat} {l : List UInt8} (h : Tx w ao n c l) (hb : Below w.heap.size w w') : Tx w' ao n c l :=
  ⟨h.len, h.cap, h.big, h.nil, fun a ha j hj => by have h1 := h.cells a ha j hj; rw [hb.cell (lt_of_cell h1)]; exact h1⟩
theorem bAlloc {w W : World} (h : Below w.heap.size w W) (o : Obj) : Below w.heap.size w (W.alloc o) := h.alloc h.size o
theorem add_none (g o j : Nat) : (⟨g, o, none⟩ : Addr).add j = ⟨g, o + j, none⟩ := by unfold Addr.add; split <;> simp_all
theorem Tx.at {w : World} {ao : Option Addr} {n c : Nat} {l : List UInt8} (h : Tx w ao n c l) (hn : 0 < n) :
    ∃ g o, ao = some ⟨g, o, none⟩ ∧ ∀ j, j < n → w.cell? ⟨g, o + j, none⟩ = some (.int .u8 ((at8 l j).toNat : Int)) := by
  cases ao with
  | none => have := h.nil rfl; have := h.cap; omega
  | some a =>
    have h0 := h.cells a rfl 0 hn
    obtain ⟨g, o, s⟩ := a
    have hs : s = none := by simpa [Addr.add] using World.cell?_spot h0
    subst hs
    exact ⟨g, o, rfl, fun j hj => by have := h.cells _ rfl j hj; rwa [add_none] at this⟩

theorem bT {a b c : World} (h1 : Below a.heap.size a b) (h2 : Below b.heap.size b c) : Below a.heap.size a c := h1.trans (h2.mono h1.size)
theorem tx_nil (w : World) : Tx w none 0 0 [] := ⟨rfl, Nat.le_refl _, by omega, fun _ => rfl, fun a ha => by cases ha⟩
theorem Tx.none {w : World} {n c : Nat} {l : List UInt8} (h : Tx w none n c l) : n = 0 ∧ c = 0 ∧ l = [] := by
  have h1 := h.nil rfl
  have h2 := h.cap
  have h3 := h.len
  exact ⟨by omega, h1, List.eq_nil_of_length_eq_zero (by omega)⟩


/-- bytes as numbers -/
def nums (l : List UInt8) : List Int := l.map fun b => (b.toNat : Int)
theorem nums_length (l : List UInt8) : (nums l).length = l.length := by simp [nums]
theorem nums_getD (l : List UInt8) (i : Nat) (h : i < l.length) : (nums l).getD i 0 = ((at8 l i).toNat : Int) := by simp [nums, at8, h, List.getD]
theorem bytesOf_nums (l : List UInt8) : Lib.bytesOf (nums l) = l := by
  unfold Lib.bytesOf nums
  rw [List.map_map]
  conv => rhs; rw [← List.map_id l]
  apply List.map_congr_left
  intro b _
  simp
theorem Tx.hc {w : World} {a : Addr} {n c : Nat} {l : List UInt8} (h : Tx w (some a) n c l) : ∀ i, i < n → w.cell? (a.add i) = some (.int .u8 ((nums l).getD i 0)) := by
  intro i hi
  rw [h.cells a rfl i hi, nums_getD l i (by rw [h.len]; exact hi)]

theorem run_indexEmpty {P : Program} (w : World) (ao : Option Addr) (c : Nat) (cv : Int) : (Extern.BytealgIndexByte.indexByte #[.slice ao 0 c, .int .u8 cv]).run P w = .ok (.int .i64 (-1)) w := by
  cases ao <;> rfl

/-- what bytes.IndexByte of a line end answers -/
def ixI (l : List UInt8) (n : Nat) : Int := if l.findIdx le < n then (l.findIdx le : Int) else -1

theorem run_index {w : World} {ao : Option Addr} {n c : Nat} {l : List UInt8} (h : Tx w ao n c l) :
    (Extern.BytealgIndexByte.indexByte #[.slice ao n c, .int .u8 10]).run Tryz.prog w = .ok (.int .i64 (ixI l n)) w := by
  unfold ixI
  rcases Nat.eq_zero_or_pos n with h0 | h0
  · subst h0
    rw [run_indexEmpty]
    simp
  · obtain ⟨g, o, rfl, hc⟩ := h.at h0
    rw [Lib.run_indexByteSlice w g o n c (nums l) (by rw [nums_length]; exact h.len) (fun i hi => by rw [hc i hi, nums_getD l i (by rw [h.len]; exact hi)]) 10, bytesOf_nums]
    rw [show ((10 : Int).toNat.toUInt8) = (10 : UInt8) from rfl, index_le, h.len]

set_option maxRecDepth 8000 in
set_option maxHeartbeats 400000 in
theorem index_any (ao : Option Addr) (n c : Nat) (l : List UInt8) (w : World) (h : Hid (Tx w ao n c l)) :
    Calls Tryz.prog 134 #[.slice ao n c, .int .u8 10] w fun e w' => e = .returned (.int .i64 (ixI l n)) ∧ w' = w := by
  go_enter Tryz.func134, Tryz.ntmps134
  go_wp2
  rw [run_callFunc_extern Tryz.func146 (by kernel_rfl) (by kernel_rfl) (by kernel_rfl) (e := Extern.BytealgIndexByte.indexByte) (by kernel_rfl), run_index h.out]
  simp only [Result.andThen]
  rw [Oper.upon_value]
  go_wp2
  go_ret
  exact ⟨rfl, rfl⟩

theorem run_count {w : World} {ao : Option Addr} {n c : Nat} {l : List UInt8} (h : Tx w ao n c l) :
    (Extern.BytealgCount.count #[.slice ao n c, .int .u8 10]).run Tryz.prog w = .ok (.int .i64 (nl l : Int)) w := by
  cases ao with
  | none =>
    have h1 := h.nil rfl
    have h2 := h.cap
    have h3 := h.len
    have : l = [] := List.eq_nil_of_length_eq_zero (by omega)
    subst this
    rw [Lib.run_countNil]
    rfl
  | some a =>
    rw [Lib.run_countAt w a n c (nums l) (by rw [nums_length]; exact h.len) h.hc 10, bytesOf_nums]
    rw [show ((10 : Int).toNat.toUInt8) = (10 : UInt8) from rfl, nl_count]

set_option maxRecDepth 8000 in
set_option maxHeartbeats 400000 in
theorem bcount_any (ao : Option Addr) (n c b : Nat) (l : List UInt8) (w : World) (h : Hid (Tx w ao n c l)) (hb : w.cell? ⟨b, 0, none⟩ = some (.int .u8 10)) :
    Calls Tryz.prog 133 #[.slice ao n c, .slice (some ⟨b, 0, none⟩) 1 1] w fun e w' => e = .returned (.int .i64 (nl l : Int)) ∧ w' = w := by
  go_enter Tryz.func133, Tryz.ntmps133
  go_wp2
  rw [run_callFunc_extern Tryz.func145 (by kernel_rfl) (by kernel_rfl) (by kernel_rfl) (e := Extern.BytealgCount.count) (by kernel_rfl), run_count h.out]
  simp only [Result.andThen]
  rw [Oper.upon_value]
  go_wp2
  go_ret
  exact ⟨rfl, rfl⟩

set_option maxRecDepth 8000 in
set_option maxHeartbeats 400000 in
theorem lineEnds_any (ao : Option Addr) (n c : Nat) (l : List UInt8) (w : World) (h : Hid (Tx w ao n c l)) :
    Calls Tryz.prog 110 #[.slice ao n c] w fun e w' => e = .returned (.int .i64 (nl l : Int)) ∧ Below w.heap.size w w' := by
  go_enter Tryz.func110, Tryz.ntmps110
  go_wp2_with (go_at_call 133; refine (bcount_any ao n c _ l _ (h.out.keep (bAlloc (Below.refl _ _) _)) (by simp)).mono ?_; rintro e w' ⟨rfl, hw⟩; subst hw)
  go_ret
  exact ⟨rfl, bAlloc (Below.refl _ _) _⟩

set_option maxRecDepth 8000 in
set_option maxHeartbeats 400000 in
theorem count_any (ao : Option Addr) (n c : Nat) (l : List UInt8) (w : World) (h : Hid (Tx w ao n c l)) :
    Calls Tryz.prog 90 #[.slice ao n c] w fun e w' => e = .returned (.int .i64 ((nl l : Int) + 1)) ∧ Below w.heap.size w w' := by
  have hb1 : (nl l : Int) ≤ 150000000000000 := by have h1 := nl_le l; have h2 := h.out.len; have h3 := h.out.big; omega
  have hb0 : (0 : Int) ≤ (nl l : Int) := by omega
  go_enter Tryz.func90, Tryz.ntmps90
  go_wp2_with (go_at_call 110; refine (lineEnds_any ao n c l _ h).mono ?_; rintro e w' ⟨rfl, hw⟩)
  go_ret
  exact ⟨rfl, hw⟩
end Go.Proofs.YtppefcnopkmhbaaGreatDoor

namespace Go.Proofs.YtppefcnopkmhbaaGreatDoor
open Go.RowKit

theorem at8_drop (l : List UInt8) (s j : Nat) : at8 (l.drop s) j = at8 l (s + j) := by simp [at8, List.getD]
theorem add_add (a : Addr) (l j : Nat) (hl : 0 < l) : (a.add l).add j = a.add (l + j) := by
  unfold Addr.add
  by_cases hj : j = 0
  · subst hj; simp
  · rw [if_neg hj, if_neg (by omega), if_neg (by omega)]; simp; omega
theorem Tx.tail0 {w : World} {a : Addr} {n c s : Nat} {l : List UInt8} (h : Tx w (some a) n c l) (hs : s ≤ n) (hc : c = s) : Tx w (some a) (n - s) 0 (l.drop s) :=
  ⟨by rw [List.length_drop, h.len], by have := h.cap; omega, by have := h.big; omega, fun _ => rfl, fun _ _ j hj => by have := h.cap; omega⟩
theorem Tx.tail {w : World} {a : Addr} {n c s : Nat} {l : List UInt8} (h : Tx w (some a) n c l) (hs : s ≤ n) : Tx w (some (a.add s)) (n - s) (c - s) (l.drop s) := by
  refine ⟨by rw [List.length_drop, h.len], by have := h.cap; omega, by have := h.big; omega, fun h => by simp at h, fun a' ha j hj => ?_⟩
  have e : a.add s = a' := by simpa using ha
  subst e
  rw [at8_drop]
  rcases Nat.eq_zero_or_pos s with h0 | h0
  · subst h0
    have := h.cells a rfl j (by omega)
    simpa [Addr.add] using this
  · rw [add_add a s j h0]
    exact h.cells a rfl (s + j) (by omega)
theorem ix_cases {n s : Nat} {l : List UInt8} (hl : l.length = n) (hs : s ≤ n) :
    (∃ k : Nat, ixI (l.drop s) (n - s) = k ∧ en l s = s + k ∧ s + k < n) ∨ (ixI (l.drop s) (n - s) = -1 ∧ en l s = n) := by
  have h1 : (l.drop s).findIdx le ≤ (l.drop s).length := List.findIdx_le_length
  rw [List.length_drop, hl] at h1
  unfold ixI en
  by_cases h : (l.drop s).findIdx le < n - s
  · exact .inl ⟨_, if_pos h, rfl, by omega⟩
  · exact .inr ⟨if_neg h, by omega⟩

theorem index_at {ao : Option Addr} {n c s : Nat} {l : List UInt8} (r : Int) (w : World) (h : Tx w ao n c (l.drop s)) (hr : ixI (l.drop s) n = r) :
    Calls Tryz.prog 134 #[.slice ao n c, .int .u8 10] w fun e w' => e = .returned (.int .i64 r) ∧ w' = w := by
  have := index_any ao n c (l.drop s) w h
  rwa [hr] at this

set_option maxHeartbeats 400000 in
theorem endFrom_any (ao : Option Addr) (n c s : Nat) (l : List UInt8) (w : World) (hs : s ≤ n) (HT : Hid (Tx w ao n c l)) :
    Calls Tryz.prog 121 #[.slice ao n c, .int .i64 s] w fun e w' => e = .returned (.int .i64 (en l s)) ∧ w' = w := by
  cases ao with
  | none =>
    obtain ⟨rfl, rfl, rfl⟩ := HT.out.none
    obtain rfl : s = 0 := by omega
    have he : en [] 0 = 0 := rfl
    go_enter Tryz.func121, Tryz.ntmps121
    go_wp2_with (go_at_call 134; refine (index_at (s := 0) (l := []) (-1) w HT.out rfl).mono ?_; rintro e w' ⟨rfl, hw⟩; subst hw)
    go_ret
    exact ⟨rfl, rfl⟩
  | some a =>
    have hcap := HT.out.cap
    have hbig : (n : Int) ≤ 150000000000000 := by have := HT.out.big; omega
    have hs' : (s : Int) ≤ n := by omega
    rcases ix_cases HT.out.len hs with ⟨k, hi, he, hk⟩ | ⟨hi, he⟩
    · have HI : Hid (ixI (l.drop s) (n - s) = k) := hi
      have HE : Hid (en l s = s + k) := he
      have hk' : (s : Int) + k < n := by omega
      clear hi he
      go_enter Tryz.func121, Tryz.ntmps121
      go_wp2_with (go_at_call 134; refine (index_at (s := s) (l := l) (k : Int) w (by first | exact HT.out.tail hs | exact HT.out.tail0 hs rfl | (exact HT.out.tail0 hs (by assumption))) HI.out).mono ?_; rintro e w' ⟨rfl, hw⟩; subst hw)
      all_goals go_ret
      all_goals (refine ⟨?_, rfl⟩; rw [HE.out]; push_cast; first | rfl | (congr 2; omega))
    · have HI : Hid (ixI (l.drop s) (n - s) = -1) := hi
      have HE : Hid (en l s = n) := he
      clear hi he
      go_enter Tryz.func121, Tryz.ntmps121
      go_wp2_with (go_at_call 134; refine (index_at (s := s) (l := l) (-1) w (by first | exact HT.out.tail hs | exact HT.out.tail0 hs rfl | (exact HT.out.tail0 hs (by assumption))) HI.out).mono ?_; rintro e w' ⟨rfl, hw⟩; subst hw)
      all_goals go_ret
      all_goals (refine ⟨?_, rfl⟩; rw [HE.out]; rfl)

set_option maxHeartbeats 400000 in
theorem startOf_neg (ao : Option Addr) (n c : Nat) (L : Int) (w : World) (hL : L < 0) :
    Calls Tryz.prog 114 #[.slice ao n c, .int .i64 L] w fun e w' => e = .returned (.tuple #[.int .i64 0, .bool false]) ∧ w' = w := by
  go_enter Tryz.func114, Tryz.ntmps114
  go_wp2
  go_ret2
  exact ⟨rfl, rfl⟩

set_option maxHeartbeats 1000000 in
theorem startOf_some (a : Addr) (n c L : Nat) (l : List UInt8) (w : World) (hL63 : (L : Int) ≤ 9223372036854775807) (HT : Hid (Tx w (some a) n c l)) :
    Calls Tryz.prog 114 #[.slice (some a) n c, .int .i64 L] w fun e w' => ((L ≤ nl l ∧ e = .returned (.tuple #[.int .i64 (sp l L), .bool true])) ∨ (nl l < L ∧ e = .returned (.tuple #[.int .i64 0, .bool false]))) ∧ w' = w := by
  have hcap := HT.out.cap
  have hbig : (n : Int) ≤ 150000000000000 := by have := HT.out.big; omega
  go_enter Tryz.func114, Tryz.ntmps114
  go_wp2_with fail
  go_loopw [1, 6] (fun u v wr => ∃ m s k : Nat, u = .int .i64 m ∧ v = .int .i64 s ∧ k + m = L ∧ St l k s ∧ wr = w) (fun u _ _ => (intOf u).toNat)
  case atStart => exact ⟨L, 0, 0, rfl, rfl, by omega, St.zero l, rfl⟩
  case round =>
    obtain ⟨m, s, k, rfl, rfl, hk, hst, rfl⟩ := hrel
    have HK : Hid (k + m = L) := hk
    have HS : Hid (St l k s) := hst
    have hs : s ≤ n := by have := hst.low'; rw [HT.out.len] at this; exact this
    have hs' : (s : Int) ≤ n := by omega
    have hmL : (m : Int) ≤ 9223372036854775807 := by omega
    clear hk hst
    rcases Nat.eq_zero_or_pos m with h0 | h0
    · subst h0
      go_wp2
      go_ret2
      refine ⟨.inl ⟨?_, ?_⟩, rfl⟩
      · have := HS.out.low; have := HK.out; omega
      · have e1 : sp l L = s := by rw [← HK.out]; exact sp_eq HS.out
        rw [e1]; rfl
    · have hm1 : (1 : Int) ≤ m := by omega
      rcases ix_cases HT.out.len hs with ⟨j, hi, he, hj⟩ | ⟨hi, he⟩
      · have HI : Hid (ixI (l.drop s) (n - s) = j) := hi
        have HE : Hid (en l s = s + j) := he
        have hj' : (s : Int) + j < n := by omega
        clear hi he
        go_wp2_with (go_at_call 134; refine (index_at (s := s) (l := l) (j : Int) _ (by first | exact HT.out.tail hs | exact HT.out.tail0 hs rfl | (exact HT.out.tail0 hs (by assumption))) HI.out).mono ?_; rintro e w' ⟨rfl, hw⟩; subst hw)
        all_goals go_roundw
        case rel =>
          refine ⟨m - 1, s + j + 1, k + 1, by go_num, by go_num, by have := HK.out; omega, ?_, by trivial⟩
          have h1 := HS.out.next (by rw [HE.out, HT.out.len]; exact hj)
          rwa [HE.out] at h1
        case measure => simp [intOf]; omega
      · have HI : Hid (ixI (l.drop s) (n - s) = -1) := hi
        have HE : Hid (en l s = n) := he
        clear hi he
        go_wp2_with (go_at_call 134; refine (index_at (s := s) (l := l) (-1) _ (by first | exact HT.out.tail hs | exact HT.out.tail0 hs rfl | (exact HT.out.tail0 hs (by assumption))) HI.out).mono ?_; rintro e w' ⟨rfl, hw⟩; subst hw)
        all_goals go_ret2
        all_goals (refine ⟨.inr ⟨?_, rfl⟩, rfl⟩; have h1 := HS.out.last (by rw [HE.out, HT.out.len]); have h2 := HK.out; omega)

set_option maxHeartbeats 1000000 in
theorem startOf_none (L : Nat) (w : World) (hL63 : (L : Int) ≤ 9223372036854775807) :
    Calls Tryz.prog 114 #[.slice none 0 0, .int .i64 L] w fun e w' => ((L ≤ nl [] ∧ e = .returned (.tuple #[.int .i64 (sp [] L), .bool true])) ∨ (nl [] < L ∧ e = .returned (.tuple #[.int .i64 0, .bool false]))) ∧ w' = w := by
  go_enter Tryz.func114, Tryz.ntmps114
  go_wp2_with fail
  go_loopw [1, 6] (fun u v wr => u = .int .i64 L ∧ v = .int .i64 0 ∧ wr = w) (fun u _ _ => (intOf u).toNat)
  case atStart => exact ⟨rfl, rfl, rfl⟩
  case round =>
    obtain ⟨rfl, rfl, rfl⟩ := hrel
    rcases Nat.eq_zero_or_pos L with h0 | h0
    · subst h0
      go_wp2
      go_ret2
      exact ⟨.inl ⟨Nat.zero_le _, rfl⟩, rfl⟩
    · have hm1 : (1 : Int) ≤ L := by omega
      go_wp2_with (go_at_call 134; refine (index_at (s := 0) (l := []) (-1) _ (tx_nil _) rfl).mono ?_; rintro e w' ⟨rfl, hw⟩; subst hw)
      all_goals go_ret2
      exact ⟨.inr ⟨h0, rfl⟩, rfl⟩

theorem startOf_yes (ao : Option Addr) (n c L : Nat) (l : List UInt8) (w : World) (hL : L ≤ nl l) (HT : Hid (Tx w ao n c l)) :
    Calls Tryz.prog 114 #[.slice ao n c, .int .i64 L] w fun e w' => e = .returned (.tuple #[.int .i64 (sp l L), .bool true]) ∧ w' = w := by
  have h63 : (L : Int) ≤ 9223372036854775807 := by have := nl_le l; have := HT.out.len; have := HT.out.big; omega
  cases ao with
  | none =>
    obtain ⟨rfl, rfl, rfl⟩ := HT.out.none
    refine (startOf_none L w h63).mono ?_
    rintro e w' ⟨⟨_, rfl⟩ | ⟨h, _⟩, hw⟩
    · exact ⟨rfl, hw⟩
    · omega
  | some a =>
    refine (startOf_some a n c L l w h63 HT).mono ?_
    rintro e w' ⟨⟨_, rfl⟩ | ⟨h, _⟩, hw⟩
    · exact ⟨rfl, hw⟩
    · omega
theorem startOf_no (ao : Option Addr) (n c : Nat) (L : Int) (l : List UInt8) (w : World) (h63 : L ≤ 9223372036854775807) (hL : L < 0 ∨ (nl l : Int) < L) (HT : Hid (Tx w ao n c l)) :
    Calls Tryz.prog 114 #[.slice ao n c, .int .i64 L] w fun e w' => e = .returned (.tuple #[.int .i64 0, .bool false]) ∧ w' = w := by
  rcases hL with hL | hL
  · exact startOf_neg ao n c L w hL
  obtain ⟨L, rfl⟩ := Int.eq_ofNat_of_zero_le (show 0 ≤ L by omega)
  cases ao with
  | none =>
    obtain ⟨rfl, rfl, rfl⟩ := HT.out.none
    refine (startOf_none L w h63).mono ?_
    rintro e w' ⟨⟨_, rfl⟩ | ⟨h, rfl⟩, hw⟩
    · omega
    · exact ⟨rfl, hw⟩
  | some a =>
    refine (startOf_some a n c L l w h63 HT).mono ?_
    rintro e w' ⟨⟨_, rfl⟩ | ⟨h, rfl⟩, hw⟩
    · omega
    · exact ⟨rfl, hw⟩

set_option maxHeartbeats 400000 in
theorem isPlace_any (ao : Option Addr) (n c : Nat) (i : Int) (w : World) :
    Calls Tryz.prog 109 #[.slice ao n c, .int .i64 i] w fun e w' => e = .returned (.bool (decide (0 ≤ i ∧ i ≤ n))) ∧ w' = w := by
  by_cases h0 : 0 ≤ i
  · by_cases h1 : i ≤ n
    · have hd : decide (0 ≤ i ∧ i ≤ n) = true := decide_eq_true ⟨h0, h1⟩
      rw [hd]
      go_enter Tryz.func109, Tryz.ntmps109
      go_wp2
      go_ret
      exact ⟨rfl, rfl⟩
    · have hd : decide (0 ≤ i ∧ i ≤ n) = false := decide_eq_false (fun h => h1 h.2)
      rw [hd]
      go_enter Tryz.func109, Tryz.ntmps109
      go_wp2
      go_ret
      exact ⟨rfl, rfl⟩
  · have hd : decide (0 ≤ i ∧ i ≤ n) = false := decide_eq_false (fun h => h0 h.1)
    rw [hd]
    go_enter Tryz.func109, Tryz.ntmps109
    go_wp2
    go_ret
    exact ⟨rfl, rfl⟩

/-- the last byte of a line, or its start -/
def lb (s e : Nat) : Nat := max s (e - 1)
/-- is a byte a blank -/
def bl (b : UInt8) : Bool := ((b.toNat : Int) == 32) || ((b.toNat : Int) == 9)
end Go.Proofs.YtppefcnopkmhbaaGreatDoor

namespace Go.Proofs.YtppefcnopkmhbaaGreatDoor
open Go.RowKit

/-- is there a line of this number -/
def lnB (l : List UInt8) (L : Int) : Bool := decide (0 ≤ L ∧ L ≤ nl l)
/-- is there a place of this number -/
def plB (l : List UInt8) (i : Int) : Bool := decide (0 ≤ i ∧ i ≤ l.length)
/-- an answer and its error -/
def ans (b : Bool) (x : Nat) : Int × Int := if b then (x, 0) else (0, 2)
def aStart (l : List UInt8) (L : Int) : Int × Int := ans (lnB l L) (sp l L.toNat)
def aEnd (l : List UInt8) (L : Int) : Int × Int := ans (lnB l L) (en l (sp l L.toNat))
def aOf (l : List UInt8) (i : Int) : Int × Int := ans (plB l i) (nl (l.take i.toNat))
def aCol (l : List UInt8) (i : Int) : Int × Int := ans (plB l i) (i.toNat - bg l i.toNat)
/-- the first byte that is no blank, of the next d from i on; else z -/
def fb (l : List UInt8) (z : Nat) : Nat → Nat → Nat
  | 0, _ => z
  | d + 1, i => if bl (at8 l i) then fb l z d (i + 1) else i
def aFirst (l : List UInt8) (L : Int) : Int × Int := ans (lnB l L) (fb l (lb (sp l L.toNat) (en l (sp l L.toNat))) (en l (sp l L.toNat) - sp l L.toNat) (sp l L.toNat))
/-- the place of a column of the line from s to e -/
def pc (s e : Nat) (c : Int) : Nat := if 0 ≤ c ∧ c < (e : Int) - s then s + c.toNat else lb s e
def aAt (l : List UInt8) (L c : Int) : Int × Int := ans (lnB l L && decide (-1 ≤ c)) (pc (sp l L.toNat) (en l (sp l L.toNat)) c)
/-- a pair as a call gives it -/
def pr (x : Int × Int) : Ending := .returned (.tuple #[.int .i64 x.1, .int .i64 x.2])

theorem ln_yes {l : List UInt8} {L : Int} (h : lnB l L = true) : ∃ k : Nat, L = k ∧ k ≤ nl l := by
  have h := of_decide_eq_true h
  obtain ⟨k, rfl⟩ := Int.eq_ofNat_of_zero_le h.1
  exact ⟨k, rfl, by omega⟩
theorem ln_no {l : List UInt8} {L : Int} (h : lnB l L = false) : L < 0 ∨ (nl l : Int) < L := by
  have h := of_decide_eq_false h
  omega
theorem pl_yes {l : List UInt8} {L : Int} (h : plB l L = true) : ∃ k : Nat, L = k ∧ k ≤ l.length := by
  have h := of_decide_eq_true h
  obtain ⟨k, rfl⟩ := Int.eq_ofNat_of_zero_le h.1
  exact ⟨k, rfl, by omega⟩
theorem lb_le {s e : Nat} (h : s ≤ e) : lb s e ≤ e := by unfold lb; omega

set_option maxHeartbeats 400000 in
theorem start_any (ao : Option Addr) (n c : Nat) (L : Int) (l : List UInt8) (w : World) (h63 : L ≤ 9223372036854775807) (HT : Hid (Tx w ao n c l)) :
    Calls Tryz.prog 82 #[.slice ao n c, .int .i64 L] w fun e w' => e = pr (aStart l L) ∧ w' = w := by
  cases hb : lnB l L with
  | true =>
    obtain ⟨k, rfl, hk⟩ := ln_yes hb
    have HA : Hid (pr (aStart l (k : Int)) = .returned (.tuple #[.int .i64 (sp l k), .int .i64 0])) := by unfold Hid pr aStart ans; rw [hb]; rfl
    clear hb
    go_enter Tryz.func82, Tryz.ntmps82
    go_wp2_with (go_at_call 114; refine (startOf_yes ao n c k l _ hk HT).mono ?_; rintro e w' ⟨rfl, hw⟩; subst hw)
    go_ret2
    exact ⟨by rw [HA.out]; rfl, rfl⟩
  | false =>
    have HA : Hid (pr (aStart l L) = .returned (.tuple #[.int .i64 0, .int .i64 2])) := by unfold Hid pr aStart ans; rw [hb]; rfl
    have hn : Hid (L < 0 ∨ (nl l : Int) < L) := ln_no hb
    clear hb
    go_enter Tryz.func82, Tryz.ntmps82
    go_wp2_with (go_at_call 114; refine (startOf_no ao n c L l _ h63 hn.out HT).mono ?_; rintro e w' ⟨rfl, hw⟩; subst hw)
    go_ret2
    exact ⟨by rw [HA.out]; rfl, rfl⟩

set_option maxHeartbeats 400000 in
theorem end_any (ao : Option Addr) (n c : Nat) (L : Int) (l : List UInt8) (w : World) (h63 : L ≤ 9223372036854775807) (HT : Hid (Tx w ao n c l)) :
    Calls Tryz.prog 99 #[.slice ao n c, .int .i64 L] w fun e w' => e = pr (aEnd l L) ∧ w' = w := by
  cases hb : lnB l L with
  | true =>
    obtain ⟨k, rfl, hk⟩ := ln_yes hb
    have HA : Hid (pr (aEnd l (k : Int)) = .returned (.tuple #[.int .i64 (en l (sp l k)), .int .i64 0])) := by unfold Hid pr aEnd ans; rw [hb]; rfl
    have hs : sp l k ≤ n := by have := sp_le hk; rw [HT.out.len] at this; exact this
    clear hb
    go_enter Tryz.func99, Tryz.ntmps99
    go_wp2_with (first | (go_at_call 114; refine (startOf_yes ao n c k l _ hk HT).mono ?_; rintro e w' ⟨rfl, hw⟩; subst hw) | (go_at_call 121; refine (endFrom_any ao n c (sp l k) l _ hs HT).mono ?_; rintro e w' ⟨rfl, hw⟩; subst hw))
    go_ret2
    exact ⟨by rw [HA.out]; rfl, rfl⟩
  | false =>
    have HA : Hid (pr (aEnd l L) = .returned (.tuple #[.int .i64 0, .int .i64 2])) := by unfold Hid pr aEnd ans; rw [hb]; rfl
    have hn : Hid (L < 0 ∨ (nl l : Int) < L) := ln_no hb
    clear hb
    go_enter Tryz.func99, Tryz.ntmps99
    go_wp2_with (go_at_call 114; refine (startOf_no ao n c L l _ h63 hn.out HT).mono ?_; rintro e w' ⟨rfl, hw⟩; subst hw)
    go_ret2
    exact ⟨by rw [HA.out]; rfl, rfl⟩

theorem Tx.head {w : World} {ao : Option Addr} {n c i : Nat} {l : List UInt8} (h : Tx w ao n c l) (hi : i ≤ n) : Tx w ao i c (l.take i) := by
  refine ⟨by rw [List.length_take, h.len]; omega, by have := h.cap; omega, by have := h.big; omega, h.nil, fun a ha j hj => ?_⟩
  rw [h.cells a ha j (by omega)]
  have : at8 (l.take i) j = at8 l j := by simp [at8, List.getD, hj]
  rw [this]

set_option maxHeartbeats 400000 in
theorem lof_any (ao : Option Addr) (n c : Nat) (i : Int) (l : List UInt8) (w : World) (HT : Hid (Tx w ao n c l)) :
    Calls Tryz.prog 77 #[.slice ao n c, .int .i64 i] w fun e w' => e = pr (aOf l i) ∧ Below w.heap.size w w' := by
  have hlen := HT.out.len
  cases hb : plB l i with
  | true =>
    obtain ⟨k, rfl, hk⟩ := pl_yes hb
    have hp : decide ((0 : Int) ≤ (k : Int) ∧ (k : Int) ≤ n) = true := decide_eq_true (by omega)
    have HA : Hid (pr (aOf l (k : Int)) = .returned (.tuple #[.int .i64 (nl (l.take k)), .int .i64 0])) := by unfold Hid pr aOf ans; rw [hb]; rfl
    have hkn : k ≤ n := by omega
    have hcap := HT.out.cap
    clear hb hlen
    cases ao with
    | none =>
      obtain ⟨rfl, rfl, rfl⟩ := HT.out.none
      obtain rfl : k = 0 := by omega
      go_enter Tryz.func77, Tryz.ntmps77
      go_wp2_with (first | (go_at_call 109; refine (isPlace_any _ _ _ _ _).mono ?_; rintro e w' ⟨rfl, hw⟩; subst hw) | (go_at_call 110; refine (lineEnds_any _ _ _ [] _ (tx_nil _)).mono ?_; rintro e w2 ⟨rfl, hw⟩))
      go_ret2
      exact ⟨by rw [HA.out]; rfl, hw⟩
    | some a =>
      go_enter Tryz.func77, Tryz.ntmps77
      go_wp2_with (first | (go_at_call 109; refine (isPlace_any _ _ _ _ _).mono ?_; rintro e w' ⟨rfl, hw⟩; subst hw; rw [hp]) | (go_at_call 110; refine (lineEnds_any _ _ _ (l.take k) _ (HT.out.head hkn)).mono ?_; rintro e w2 ⟨rfl, hw⟩))
      go_ret2
      exact ⟨by rw [HA.out]; rfl, hw⟩
  | false =>
    have hp : decide ((0 : Int) ≤ i ∧ i ≤ (n : Int)) = false := by rw [← hlen]; exact hb
    have HA : Hid (pr (aOf l i) = .returned (.tuple #[.int .i64 0, .int .i64 2])) := by unfold Hid pr aOf ans; rw [hb]; rfl
    clear hb
    go_enter Tryz.func77, Tryz.ntmps77
    go_wp2_with (go_at_call 109; refine (isPlace_any _ _ _ _ _).mono ?_; rintro e w' ⟨rfl, hw⟩; subst hw; rw [hp])
    go_ret2
    exact ⟨by rw [HA.out]; rfl, Below.refl _ _⟩

theorem bg_take (l : List UInt8) (m : Nat) : ∀ i, i ≤ m → bg (l.take m) i = bg l i
  | 0, _ => rfl
  | i + 1, h => by
    have e : at8 (l.take m) i = at8 l i := by simp [at8, List.getD, show i < m by omega]
    unfold bg
    rw [e, bg_take l m i (by omega)]

end Go.Proofs.YtppefcnopkmhbaaGreatDoor
