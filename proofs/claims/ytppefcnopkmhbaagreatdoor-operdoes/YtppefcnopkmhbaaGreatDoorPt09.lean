/- Trm9, Wbk, Rpt9, Lno, Bla, Exc -/
import Derived.Test.YtppefcnopkmhbaaGreatDoorPt08
import Derived.Test.YtppefcnopkmhbaaGreatDoorPt02
import Derived.Lib.MakeNoZero
import Derived.Laws.Bits64b
namespace Go.Proofs.YtppefcnopkmhbaaGreatDoor
open Go.RowKit

set_option maxRecDepth 8000
/-- how many bytes at the head are b -/
def ld (b : UInt8) (l : List UInt8) : Nat := (l.takeWhile (· == b)).length
theorem ld_le (b : UInt8) (l : List UInt8) : ld b l ≤ l.length := by
  unfold ld
  induction l with
  | nil => simp
  | cons x l ih => rw [List.takeWhile_cons]; split <;> simp; exact ih
theorem ld_all {b : UInt8} {l : List UInt8} {j : Nat} (h : j < ld b l) : at8 l j = b := by
  unfold ld at h
  induction l generalizing j with
  | nil => simp at h
  | cons x l ih =>
    rw [List.takeWhile_cons] at h
    split at h
    · rename_i hx
      cases j with
      | zero => simpa [at8] using hx
      | succ j =>
        have := ih (j := j) (by simp at h; exact h)
        simpa [at8] using this
    · simp at h
theorem ld_stop {b : UInt8} {l : List UInt8} (h : ld b l < l.length) : at8 l (ld b l) ≠ b := by
  unfold ld at *
  induction l with
  | nil => simp at h
  | cons x l ih =>
    rw [List.takeWhile_cons] at h ⊢
    split
    · rename_i hx
      rw [if_pos hx] at h
      have := ih (by simp at h; exact h)
      simpa [at8] using this
    · rename_i hx
      simpa [at8] using hx
theorem u8_eq (x y : UInt8) : ((x.toNat : Int) == (y.toNat : Int)) = (x == y) := by
  by_cases h : x = y
  · subst h; simp
  · have h2 : ¬ ((x.toNat : Int) = (y.toNat : Int)) := fun e => h (UInt8.toNat_inj.1 (by omega))
    rw [beq_eq_false_iff_ne.2 h, beq_eq_false_iff_ne.2 h2]
set_option maxHeartbeats 4000000 in
theorem trimByte_any (ao : Option Addr) (n c : Nat) (b : UInt8) (l : List UInt8) (w : World) (HT : Hid (Tx w ao n c l)) :
    Calls Tryz.prog 116 #[.slice ao n c, .int .u8 (b.toNat : Int)] w fun e w' => (∃ a' c', e = .returned (.slice a' (n - ld b l) c') ∧ Tx w a' (n - ld b l) c' (l.drop (ld b l))) ∧ w' = w := by
  have HL := Hid.mk' HT.out.len
  have hld : ld b l ≤ n := by have := ld_le b l; have := HL.out; omega
  have HD := Hid.mk' hld
  clear hld
  go_enter Tryz.func116, Tryz.ntmps116
  go_wp2_with fail
  go_loopg [0] n (fun m x0 wx => ∃ (i : Nat) (a' : Option Addr) (c' : Nat), x0 = .slice a' m c' ∧ i + m = n ∧ i ≤ ld b l ∧ Hid (Tx w a' m c' (l.drop i)) ∧ wx = w)
  case atStart => exact ⟨0, ao, c, rfl, by omega, by omega, by rw [List.drop_zero]; exact HT, rfl⟩
  case round =>
    obtain ⟨i, a', c', rfl, him, hil, KT, rfl⟩ := hrel
    by_cases hg : gk = 0
    · subst hg
      have e : ld b l = i := by have := HD.out; omega
      go_wp2
      go_ret
      refine ⟨⟨none, 0, ?_, ?_⟩, rfl⟩
      · rw [show n - ld b l = 0 by omega]; rfl
      · rw [show n - ld b l = 0 by omega, show l.drop (ld b l) = [] from List.drop_eq_nil_of_le (by have := HL.out; omega)]
        exact tx_nil _
    · obtain ⟨go, hgo⟩ : ∃ g, gk = g + 1 := ⟨gk - 1, by omega⟩
      subst hgo
      obtain ⟨g, o, rfl, hc⟩ := KT.out.at (by omega)
      have h0 := hc 0 (by omega)
      have h0' : wr.cell? ⟨g, o, none⟩ = some (.int .u8 ((at8 l i).toNat : Int)) := by rw [Nat.add_zero, at8_drop, Nat.add_zero] at h0; exact h0
      have hq := u8_eq (at8 l i) b
      have hpos : (0 : Int) < ((go + 1 : Nat) : Int) := by omega
      have hne : ¬ (((go + 1 : Nat) : Int) = 0) := by omega
      clear hc h0
      by_cases hb : at8 l i = b
      · have hq1 : (((at8 l i).toNat : Int) == (b.toNat : Int)) = true := by rw [hq]; simpa using hb
        have hil2 : i + 1 ≤ ld b l := by
          rcases Nat.lt_or_ge i (ld b l) with h | h
          · omega
          · have e : ld b l = i := by omega
            exact absurd (by rw [e]; exact hb) (ld_stop (b := b) (l := l) (by have := HL.out; omega))
        obtain ⟨a3, c3, hs3, hT3⟩ := sl_l KT.out (lo := 1) (z := (1 : Int)) (by omega) rfl
        rw [List.drop_drop, show go + 1 - 1 = go by omega] at hT3
        have hT4 := Hid.mk' hT3
        rw [show go + 1 - 1 = go by omega] at hs3
        clear hq hT3 hb
        go_wp2
        go_roundg go
        case measure => omega
        case rel => exact ⟨i + 1, a3, c3, rfl, by omega, hil2, hT4.out, rfl⟩
      · have hq1 : (((at8 l i).toNat : Int) == (b.toNat : Int)) = false := by rw [hq]; simpa using hb
        have e : ld b l = i := by
          rcases Nat.lt_or_ge i (ld b l) with h | h
          · exact absurd (ld_all h) hb
          · omega
        clear hq
        go_wp2
        go_ret
        refine ⟨⟨some ⟨g, o, none⟩, c', ?_, ?_⟩, rfl⟩
        · rw [show n - ld b l = go + 1 by omega]; rfl
        · rw [show n - ld b l = go + 1 by omega, e]; exact KT.out
set_option maxHeartbeats 4000000 in
theorem trimBlank_any (ao : Option Addr) (n c : Nat) (l : List UInt8) (w : World) (HT : Hid (Tx w ao n c l)) :
    Calls Tryz.prog 91 #[.slice ao n c, .string ⟨#[32]⟩] w fun e w' => (∃ a' c', e = .returned (.slice a' (n - ld 32 l) c') ∧ Tx w a' (n - ld 32 l) c' (l.drop (ld 32 l))) ∧ w' = w := by
  have hl := HT.out.len
  by_cases h0 : n = 0
  · subst h0
    obtain rfl : l = [] := List.eq_nil_of_length_eq_zero hl
    go_enter Tryz.func91, Tryz.ntmps91
    go_wp2
    go_ret
    exact ⟨⟨none, 0, rfl, tx_nil _⟩, rfl⟩
  · have C : Hid _ := trimByte_any ao n c 32 l w HT
    have hne : ¬ ((n : Int) = 0) := by omega
    go_enter Tryz.func91, Tryz.ntmps91
    go_wp2_with (first | (go_at_call 116; refine Calls.mono C.out ?_; rintro e w1 ⟨⟨a', c', rfl, hT'⟩, rfl⟩) | fail)
    go_ret
    exact ⟨⟨a', c', rfl, hT'⟩, rfl⟩
end Go.Proofs.YtppefcnopkmhbaaGreatDoor

namespace Go.Proofs.YtppefcnopkmhbaaGreatDoor
open Go.RowKit

set_option maxRecDepth 8000
/-- bytes in a block of their own, from lo on and below hi -/
def Wb (W : World) (lo hi : Nat) (v : Value) (l : List UInt8) : Prop :=
  (v = .slice none 0 0 ∧ l = []) ∨ ∃ g cap cur, v = .slice (some ⟨g, 0, none⟩) l.length cap ∧ lo ≤ g ∧ g < hi ∧ Blk W g 5 cur ∧ l.length ≤ cap ∧ cap ≤ maxLen ∧ cap ≤ cur.size ∧ cur.toList.take l.length = bv l
theorem Wb.nil (W : World) (lo hi : Nat) : Wb W lo hi (.slice none 0 0) [] := .inl ⟨rfl, rfl⟩
theorem Wb.of_own {W : World} {lo hi n : Nat} {v : Value} {l : List UInt8} (h : W.ownsRow lo 5 1 v n (bv l)) (hh : ∀ g, v.ownBlock = some g → g < hi) : Wb W lo hi v l := by
  have hl : l.length = n := by have := h.1; rw [bv_length] at this; omega
  rcases h.2 with ⟨rfl, h0⟩ | ⟨g, cap, cur, rfl, h1, h2, h3, h4, h5, h6⟩
  · exact .inl ⟨rfl, List.eq_nil_of_length_eq_zero (by omega)⟩
  · refine .inr ⟨g, cap, cur, by rw [hl], h1, hh g rfl, h2, by omega, h4, by omega, ?_⟩
    rw [hl]; simpa using h6
theorem Wb.new {w W : World} {n : Nat} {v : Value} {l : List UInt8} (h : W.ownsRow w.heap.size 5 1 v n (bv l)) : Wb W w.heap.size W.heap.size v l := Wb.of_own h fun g hg => (h.lt g hg).2
theorem Wb.keep {W W' : World} {lo hi : Nat} {v : Value} {l : List UInt8} (h : Wb W lo hi v l) (hb : Below W.heap.size W W') : Wb W' lo hi v l := by
  rcases h with h | ⟨g, cap, cur, rfl, h1, h2, h3, h4⟩
  · exact .inl h
  · exact .inr ⟨g, cap, cur, rfl, h1, h2, h3.keep hb, h4⟩
theorem Wb.wide {W : World} {lo hi lo' hi' : Nat} {v : Value} {l : List UInt8} (h : Wb W lo hi v l) (h1 : lo' ≤ lo) (h2 : hi ≤ hi') : Wb W lo' hi' v l := by
  rcases h with h | ⟨g, cap, cur, rfl, h3, h4, h5⟩
  · exact .inl h
  · exact .inr ⟨g, cap, cur, rfl, by omega, by omega, h5⟩
theorem Wb.up {W : World} {lo hi : Nat} {v : Value} {l : List UInt8} (h : Wb W lo hi v l) {g : Nat} (hg : v.ownBlock = some g) : lo ≤ g ∧ g < hi ∧ g < W.heap.size := by
  rcases h with ⟨rfl, _⟩ | ⟨q, cap, cur, rfl, h1, h2, h3, h4⟩
  · cases hg
  · injection hg with hg
    subst hg
    exact ⟨h1, h2, h3.lt⟩
theorem Wb.shape {W : World} {lo hi : Nat} {v : Value} {l : List UInt8} (h : Wb W lo hi v l) : ∃ ao c, v = .slice ao l.length c := by
  rcases h with ⟨rfl, rfl⟩ | ⟨g, cap, cur, rfl, _⟩
  · exact ⟨none, 0, rfl⟩
  · exact ⟨_, _, rfl⟩
theorem Wb.tx {W : World} {lo hi n c : Nat} {ao : Option Addr} {l : List UInt8} (h : Wb W lo hi (.slice ao n c) l) (hb : l.length ≤ 150000000000000) : Tx W ao n c l := by
  rcases h with ⟨e, rfl⟩ | ⟨g, cap, cur, e, h1, h2, h3, h4, h5, h6, h7⟩
  · simp at e
    obtain ⟨rfl, rfl, rfl⟩ := e
    exact tx_nil W
  · simp at e
    obtain ⟨rfl, rfl, rfl⟩ := e
    refine ⟨rfl, h4, hb, (fun e => by cases e), fun a ha j hj => ?_⟩
    injection ha with ha
    subst ha
    rw [add_none, Nat.zero_add]
    refine h3.cell ?_
    have h8 := bv_at l j hj
    rw [← h7, List.getElem?_take_of_lt hj] at h8
    rw [← h8]
    simp
theorem Wb.grown {W W' : World} {lo hi B : Nat} {v : Value} {l : List UInt8} (h : Wb W lo hi v l) (hg : W.grownBy W' (some B)) (hB : B < lo ∨ hi ≤ B) : Wb W' lo hi v l := by
  rcases h with h | ⟨g, cap, cur, rfl, h1, h2, h3, h4⟩
  · exact .inl h
  · exact .inr ⟨g, cap, cur, rfl, h1, h2, h3.grown hg (by intro e; injection e with e; omega), h4⟩
/-- a call that gives new bytes -/
def WbP (X : List UInt8) (w : World) (e : Ending) (w' : World) : Prop := ∃ v, e = .returned v ∧ Wb w' w.heap.size w'.heap.size v X ∧ Below w.heap.size w w'
theorem WbP.of {n : Nat} {X : List UInt8} {w w' : World} {e : Ending} (h : NewP n X w e w') : WbP X w e w' := by
  obtain ⟨v, h1, h2, h3⟩ := h
  exact ⟨v, h1, Wb.new h2, h3⟩
theorem cloneW_any (ao : Option Addr) (n c : Nat) (l : List UInt8) (w : World) (hb : n ≤ 140737488355328) (h : Hid (Tx w ao n c l)) :
    Calls Tryz.prog 46 #[.slice ao n c] w fun e w' => WbP l w e w' := (clone_any ao n c l w hb h).mono fun _ _ h => WbP.of h
end Go.Proofs.YtppefcnopkmhbaaGreatDoor

namespace Go.Proofs.YtppefcnopkmhbaaGreatDoor
open Go.RowKit

set_option maxRecDepth 8000
theorem low32 (a : Nat) (ha : a ≤ 65536) : bits .and .u64 (a : Int) 4294967295 = (a : Int) := by
  have h := bits_and_u64_nat a 4294967295 (by omega) (by omega)
  have e : a &&& 4294967295 = a % 4294967296 := Nat.and_two_pow_sub_one_eq_mod a 32
  rw [e, Nat.mod_eq_of_lt (by omega)] at h
  exact h
theorem high32 (a : Nat) (ha : a ≤ 65536) : (a : Int) / 4294967296 = 0 := by omega
set_option maxHeartbeats 1000000 in
theorem mul64_small (x y p : Nat) (hx : x ≤ 65536) (hy : y ≤ 65536) (hp : (x : Int) * (y : Int) = (p : Int)) (hb : p ≤ 65536) (w : World) :
    Calls Tryz.prog 113 #[.int .u64 (x : Int), .int .u64 (y : Int)] w fun e w' => e = .returned (.tuple #[.int .u64 0, .int .u64 (p : Int)]) ∧ w' = w := by
  have h1 := low32 x hx
  have h2 := low32 y hy
  have h3 := high32 x hx
  have h4 := high32 y hy
  have h5 := high32 p hb
  have h6 : IntKind.u64.wrap (p : Int) = (p : Int) := by rw [IntKind.wrap_u64]; omega
  have h7 : bits .and .u64 0 4294967295 = 0 := low32 0 (by omega)
  go_enter Tryz.func113, Tryz.ntmps113
  go_wp2
  go_ret2
  exact ⟨rfl, rfl⟩
theorem mul_small (x y p : Nat) (hx : x ≤ 65536) (hy : y ≤ 65536) (hp : (x : Int) * (y : Int) = (p : Int)) (hb : p ≤ 65536) (w : World) :
    Calls Tryz.prog 80 #[.int .u64 (x : Int), .int .u64 (y : Int)] w fun e w' => e = .returned (.tuple #[.int .u64 0, .int .u64 (p : Int)]) ∧ w' = w := by
  have C := Hid.mk' (mul64_small x y p hx hy hp hb w)
  clear hp
  go_enter Tryz.func80, Tryz.ntmps80
  go_wp2_with (first | (go_at_call 113; refine C.out.mono ?_; rintro e w' ⟨rfl, hw⟩; subst hw) | fail)
  go_ret2
  exact ⟨rfl, rfl⟩
/-- bytes, so many times -/
def rp (l : List UInt8) : Nat → List UInt8
  | 0 => []
  | k + 1 => l ++ rp l k
theorem rp_len (l : List UInt8) (k : Nat) : (rp l k).length = l.length * k := by
  induction k with
  | zero => rfl
  | succ k ih => show (l ++ rp l k).length = _; rw [List.length_append, ih, Nat.mul_succ]; omega
theorem rp_at (l : List UInt8) (k j : Nat) (h : j < l.length * k) : at8 (rp l k) j = at8 l (j % l.length) := by
  induction k generalizing j with
  | zero => omega
  | succ k ih =>
    show at8 (l ++ rp l k) j = _
    by_cases hj : j < l.length
    · rw [Nat.mod_eq_of_lt hj]
      unfold at8
      rw [List.getD_eq_getElem?_getD, List.getD_eq_getElem?_getD, List.getElem?_append_left hj]
    · have e : at8 (l ++ rp l k) j = at8 (rp l k) (j - l.length) := by
        unfold at8
        rw [List.getD_eq_getElem?_getD, List.getD_eq_getElem?_getD, List.getElem?_append_right (by omega)]
      rw [e, ih _ (by rw [Nat.mul_succ] at h; omega)]
      congr 1
      conv => rhs; rw [show j = j - l.length + l.length by omega]
      rw [Nat.add_mod_right]
theorem rp_nil (l : List UInt8) (k : Nat) (h : l.length * k = 0) : rp l k = [] := List.eq_nil_of_length_eq_zero (by rw [rp_len]; exact h)

/-- the cells of a row hold l over and over, up to p -/
def Ov (l : List UInt8) (X : List Value) (p : Nat) : Prop := ∀ j, j < p → X[j]? = some (.int .u8 ((at8 l (j % l.length)).toNat : Int))
theorem Ov.done {l : List UInt8} {X : List Value} {k p : Nat} (h : Ov l X p) (hp : p = l.length * k) : X.take p = bv (rp l k) := by
  apply List.ext_getElem?
  intro j
  by_cases hj : j < p
  · rw [List.getElem?_take_of_lt hj, h j hj, bv_at _ _ (by rw [rp_len]; omega), rp_at _ _ _ (by omega)]
  · rw [List.getElem?_eq_none (by rw [List.length_take]; omega), List.getElem?_eq_none (by rw [bv_length, rp_len]; omega)]
theorem Ov.first {l : List UInt8} {X : List Value} : Ov l (pat X 0 (bv l)) l.length := by
  intro j hj
  unfold pat
  rw [List.take_zero, List.nil_append, List.getElem?_append_left (by rw [bv_length]; exact hj), bv_at _ _ hj, Nat.mod_eq_of_lt hj]
theorem Ov.more {l : List UInt8} {X : List Value} {p q a : Nat} (h : Ov l X p) (hp : p = l.length * a) (hq : q ≤ p) (hX : p + q ≤ X.length) : Ov l (pat X p (X.take q)) (p + q) := by
  intro j hj
  unfold pat
  have htl : (X.take q).length = q := by rw [List.length_take]; omega
  have htp : (X.take p).length = p := by rw [List.length_take]; omega
  by_cases hjp : j < p
  · rw [List.append_assoc, List.getElem?_append_left (by omega), List.getElem?_take_of_lt hjp, h j hjp]
  · rw [List.getElem?_append_left (by rw [List.length_append]; omega), List.getElem?_append_right (by omega), htp, List.getElem?_take_of_lt (by omega), h (j - p) (by omega)]
    congr 4
    conv => rhs; rw [show j = j - p + l.length * a by omega]
    rw [Nat.add_mul_mod_self_left]
theorem blkX {W : World} {B : Nat} {cs : Array Value} (h : Blk W B 5 cs) : Blk W B 5 cs.toList.toArray := by simpa using h
set_option maxHeartbeats 1000000 in
theorem repeat_nil (ao : Option Addr) (n c k : Nat) (l : List UInt8) (w : World) (HT : Hid (Tx w ao n c l)) (hn : n ≤ 65536) (hk : k ≤ 9999) (h0 : n * k = 0) :
    Calls Tryz.prog 48 #[.slice ao n c, .int .i64 (k : Int)] w fun e w' => WbP (rp l k) w e w' := by
  have HR := Hid.mk' (rp_nil l k (by rw [HT.out.len]; exact h0))
  have hfin : ∀ W : World, W = w.alloc (.cells #[] 5) → WbP (rp l k) w (.returned (.slice (some ⟨w.heap.size, 0, none⟩) 0 0)) W := fun W hW => by
    subst hW
    refine ⟨_, rfl, ?_, bAlloc (Below.refl _ _) _⟩
    rw [HR.out]
    exact .inr ⟨w.heap.size, 0, #[], rfl, Nat.le_refl _, by simp, Blk.new w 5 #[], by simp, by unfold maxLen; omega, by simp, rfl⟩
  by_cases hk0 : k = 0
  · subst hk0
    go_enter Tryz.func48, Tryz.ntmps48
    go_wp2
    go_ret
    exact hfin _ rfl
  · obtain rfl : n = 0 := by rcases Nat.mul_eq_zero.1 h0 with h | h <;> omega
    have C := Hid.mk' (mul_small 0 k 0 (by omega) (by omega) (by omega) (by omega))
    have h1 : ¬ ((k : Int) = 0) := by omega
    have h2 : ¬ ((k : Int) < 0) := by omega
    have hw : IntKind.u64.wrap (k : Int) = (k : Int) := by rw [IntKind.wrap_u64]; omega
    go_enter Tryz.func48, Tryz.ntmps48
    go_wp2_with (first | (go_at_call 80; refine (C.out _).mono ?_; rintro e w' ⟨rfl, hw⟩; subst hw) | fail)
    go_ret
    exact hfin _ rfl

/-- a row[:hi:hi] -/
theorem so_hm (g n c hi : Nat) {z : Int} (hhi : hi ≤ c) (hz : z = (hi : Int)) : ∀ W, (Instr.sliceAt 22 (.slice (some ⟨g, 0, none⟩) n c) none (some (.int .i64 z)) (some (.int .i64 z))).run Tryz.prog W = .ok (.slice (some ⟨g, 0, none⟩) hi hi) W := fun W => by
  subst hz
  rw [run_sliceAt_slice W 22 _ _ _ _ und22, run_slice_hm W 22 _ n c und22 .i64 .i64 (hi : Int) (hi : Int) (by omega) (by omega) (by omega), elem22, size5]
  show Result.ok (sliced (some ⟨g, 0, none⟩) 0 (hi : Int).toNat (hi : Int).toNat 1) W = _
  unfold sliced
  rw [show (hi : Int).toNat = hi by omega]
  split <;> simp [Addr.add]
/-- the chunk that is copied at a time -/
theorem chunk_q (n : Nat) : ∃ d : Nat, Int.tdiv 8192 (n : Int) = (d : Int) ∧ d * n ≤ 8192 ∧ d ≤ 8192 := by
  refine ⟨8192 / n, ?_, Nat.div_mul_le_self _ _, Nat.div_le_self _ _⟩
  rw [show (8192 : Int) = ((8192 : Nat) : Int) from rfl, ← Int.ofNat_tdiv]
set_option maxHeartbeats 8000000 in
theorem repeat_yes (ao : Option Addr) (n c k P : Nat) (l : List UInt8) (w : World) (HT : Hid (Tx w ao n c l)) (hn : 1 ≤ n) (hk : 1 ≤ k) (hk9 : k ≤ 9999) (hP : n * k = P) (hb : P ≤ 65536) :
    Calls Tryz.prog 48 #[.slice ao n c, .int .i64 (k : Int)] w fun e w' => WbP (rp l k) w e w' := by
  have hnP : n ≤ P := by rw [← hP]; exact Nat.le_mul_of_pos_right n hk
  have hll := HT.out.len
  have HLL := Hid.mk' hll
  have HPK := Hid.mk' hP
  have C := Hid.mk' (mul_small n k P (by omega) (by omega) (by rw [← hP]; exact (Int.natCast_mul n k).symm) hb)
  have h1 : ¬ ((k : Int) = 0) := by omega
  have h2 : ¬ ((k : Int) < 0) := by omega
  have hw : IntKind.u64.wrap (k : Int) = (k : Int) := by rw [IntKind.wrap_u64]; omega
  have hwn : IntKind.u64.wrap (n : Int) = (n : Int) := by rw [IntKind.wrap_u64]; omega
  have h3 : ((n : Int) == 0) = false := by simp; omega
  have hwP : IntKind.i64.wrap (P : Int) = (P : Int) := by rw [IntKind.wrap_i64]; omega
  have h4 : ¬ ((9223372036854775807 : Int) < (P : Int)) := by omega
  obtain ⟨cs, hmk, hcs1, hcs2⟩ := Lib.run_makeNoZero (P := Tryz.prog) w #[3] 22 5 Tryz.underlying22 P (by omega)
  have hcm : cs.size ≤ maxLen := hcs2 (by unfold maxLen; omega)
  have HCM := Hid.mk' hcm
  obtain ⟨W1, hW1⟩ : ∃ x, w.drew.drew.alloc (.cells cs 5) = x := ⟨_, rfl⟩
  rw [hW1] at hmk
  have hsz : (w.drew.drew : World).heap.size = w.heap.size := rfl
  have hK1 : Blk W1 w.heap.size 5 cs := by rw [← hW1]; exact Blk.new w.drew.drew 5 cs
  have hL1 : Below w.heap.size w W1 := by rw [← hW1]; exact bAlloc (Below.refl _ _).drew.drew _
  have K1 := Hid.mk' (blkX hK1)
  have L1 := Hid.mk' hL1
  have HMK := Hid.mk' hmk
  have HC1 := Hid.mk' (show P ≤ cs.toList.length by simpa using hcs1)
  obtain ⟨B, hB⟩ : ∃ b, w.heap.size = b := ⟨_, rfl⟩
  have HB := Hid.mk' hB
  have H1 := so_hm B P cs.size P (z := (P : Int)) (by omega) rfl
  rw [hB] at hmk K1 HMK
  have HMK : Hid ((Extern.BytealgMakeNoZero.makeNoZero #[3] #[22] #[.int .i64 (P : Int)]).run Tryz.prog w = .ok (.slice (some ⟨B, 0, none⟩) P cs.size) W1) := hmk
  clear hsz hK1 hL1 hcs2 hW1 hmk hcm hB
  have hq0 := chunk_q n
  clear hP
  go_enter Tryz.func48, Tryz.ntmps48
  go_upto_if 42 with (first | (go_at_call 80; refine (C.out _).mono ?_; rintro e w' ⟨rfl, hw⟩; have hq := hw.symm; subst hq; clear hw) | fail)
  clear h1 h2 hw hwn h4
  go_cut [8] from 43 to 52 (fun x8 wx => (∃ q a : Nat, x8 = .int .i64 (q : Int) ∧ q = n * a ∧ 1 ≤ a ∧ q ≤ 65536) ∧ wx = w)
  case first =>
    obtain ⟨d, hd1, hd2, hd3⟩ := hq0
    have hwd : IntKind.i64.wrap (d : Int) = (d : Int) := by rw [IntKind.wrap_i64]; omega
    have hwm : IntKind.i64.wrap ((d : Int) * (n : Int)) = ((d * n : Nat) : Int) := by rw [IntKind.wrap_i64, show (d : Int) * (n : Int) = ((d * n : Nat) : Int) from (Int.natCast_mul d n).symm]; omega
    by_cases hP8 : (8192 : Int) < (P : Int)
    · by_cases hd0 : d * n = 0
      · have hd0' : (((d * n : Nat) : Int) = 0) := by omega
        rw [hd0'] at hwm
        go_wp2_with fail
        go_meet
        exact ⟨⟨n, 1, rfl, by omega, by omega, by omega⟩, rfl⟩
      · have hd0' : ¬ (((d * n : Nat) : Int) = 0) := by omega
        generalize hm : d * n = m at *
        go_wp2_with fail
        go_meet
        exact ⟨⟨m, d, rfl, by rw [← hm, Nat.mul_comm], by rcases Nat.eq_zero_or_pos d with h | h; rw [h] at hm; omega; exact h, by omega⟩, rfl⟩
    · go_wp2_with fail
      go_meet
      exact ⟨⟨P, k, rfl, HPK.out.symm, hk, hb⟩, rfl⟩
  case rest =>
    obtain ⟨⟨q, a, rfl, hqa, ha1, hq6⟩, rfl⟩ := hcut
    have HQA := Hid.mk' hqa
    clear hqa hq0
    have hws : IntKind.i64.wrap (P : Int) = (P : Int) := by rw [IntKind.wrap_i64]; omega
    obtain ⟨W2, hcp, hK2, hG2⟩ := cp_ty (W := W1) (dc := P) (lo := 0) (dl := P) (k := n) K1.out (.inl rfl) (by have := (HT.out.keep L1.out).srv; exact this) (by rw [bv_length]; exact HLL.out) (fun v hv => bv_one l v (List.mem_of_mem_take hv)) (by omega) (by have := HC1.out; omega)
    have hK2' : Blk W2 B 5 (pat cs.toList 0 (bv l)).toArray := by rwa [List.take_of_length_le (by rw [bv_length]; have := HLL.out; omega)] at hK2
    have hgi : goInt n = .int .i64 (n : Int) := rfl
    rw [hgi] at hcp
    have HCP := Hid.mk' hcp
    have K2 := Hid.mk' hK2'
    have L2 : Hid (Below B wc W2) := by unfold Hid; rw [← HB.out]; exact L1.out.grown hG2 L1.out.size (fun g hg => by injection hg with hg; have := HB.out; omega)
    have hP0 : (P : Int) ≤ (P : Int) := Int.le_refl _
    clear hK2 hK2' hG2 hgi
    go_wp2_with (first | (rw [run_callFunc_extern Tryz.func81 (by kernel_rfl) (by kernel_rfl) (by kernel_rfl) (e := Extern.BytealgMakeNoZero.makeNoZero #[3] #[22]) (by kernel_rfl), HMK.out]; simp only [Result.andThen]; rw [Oper.upon_value]) | (at_builtin; refine wl_copy rfl _ _ rfl _ _ (by rfl) (by rfl) hcp ?_) | fail)
    have HCS := Hid.mk' (show P ≤ cs.size by have := HC1.out; simpa using this)
    have HX0 : Hid ((pat cs.toList 0 (bv l)).length = cs.size) := by unfold Hid; rw [pat_length (by rw [bv_length]; have := HC1.out; have := HLL.out; omega)]; simp
    have HO0 : Hid (Ov l (pat cs.toList 0 (bv l)) n) := by unfold Hid; rw [← HLL.out]; exact Ov.first
    go_loopg [10, 11] P (fun m x10 x11 wx => ∃ (p b : Nat) (X : List Value), x10 = .int .i64 (p : Int) ∧ p ≤ P ∧ p + m = P + n ∧ p = n * b ∧ 1 ≤ b ∧ Hid (Blk wx B 5 X.toArray) ∧ Hid (X.length = cs.size) ∧ Hid (Ov l X p) ∧ Hid (Below B wc wx))
    case atStart => exact ⟨n, 1, _, rfl, hnP, Nat.add_comm _ _, (Nat.mul_one n).symm, Nat.le_refl 1, K2.out, HX0.out, HO0.out, L2.out⟩
    case round =>
      obtain ⟨p, b, X, rfl, hple, hpm, hpb, hb1, KX, HXl, HOv, KB⟩ := hrel
      clear K2 L2 HX0 HO0
      by_cases hpP : p < P
      · have hpP' : (p : Int) < (P : Int) := by omega
        obtain ⟨ch, hch⟩ : ∃ ch, min p q = ch := ⟨_, rfl⟩
        have hmin : min (p : Int) (q : Int) = (ch : Int) := by omega
        obtain ⟨kk, hkk⟩ : ∃ kk, min ch (P - p) = kk := ⟨_, rfl⟩
        have hchP : ch ≤ P := by omega
        obtain ⟨a3, c3, hs3, hp3⟩ := so_l B P P p (z := (p : Int)) (Nat.le_refl _) (by omega) rfl
        have hs4 := so_h B P P ch (z := (ch : Int)) hchP rfl
        have hsrv : Srv wr.drew (.slice (some ⟨B, 0, none⟩) ch P) ch (X.take ch) := .inr ⟨_, _, rfl, fun j t hj => by
          have hj' : j < ch := by have := (List.getElem?_eq_some_iff.1 hj).1; rw [List.length_take] at this; omega
          rw [List.getElem?_take_of_lt hj'] at hj
          rw [add_none, Nat.zero_add]
          exact (show Blk wr.drew B 5 X.toArray from KX.out).cell (by simpa using hj)⟩
        have hone : ∀ v ∈ (X.take ch).take kk, v.oneCell' = true := fun v hv => by
          rw [List.take_take] at hv
          obtain ⟨j, hj⟩ := List.getElem?_of_mem hv
          have hj2 := (List.getElem?_eq_some_iff.1 hj).1
          rw [List.length_take] at hj2
          rw [List.getElem?_take_of_lt (by omega), HOv.out j (by omega)] at hj
          injection hj with hj
          rw [← hj]; rfl
        obtain ⟨W3, hcp, hK3, hG3⟩ := cp_ty (W := wr.drew) (dc := c3) (lo := p) (dl := P - p) (k := kk) (show Blk wr.drew B 5 X.toArray from KX.out) hp3 hsrv (by rw [List.length_take]; have := HXl.out; have := HCS.out; omega) hone hkk.symm (by have := HXl.out; have := HCS.out; omega)
        rw [show goInt kk = .int .i64 (kk : Int) from rfl] at hcp
        rw [List.take_take, show min kk ch = kk by omega] at hK3
        have HCP := Hid.mk' hcp
        have K3 := Hid.mk' hK3
        have HX3 : Hid ((pat X p (X.take kk)).length = cs.size) := by unfold Hid; rw [pat_length (by rw [List.length_take]; have := HXl.out; have := HCS.out; omega)]; exact HXl.out
        have HO3 : Hid (Ov l (pat X p (X.take kk)) (p + kk)) := HOv.out.more (a := b) (by rw [HLL.out]; exact hpb) (by omega) (by have := HXl.out; have := HCS.out; omega)
        have L3 : Hid (Below B wc W3) := (show Below B wc wr.drew from KB.out.drew).grown hG3 (by rw [← HB.out]; exact KB.out.size) (fun g hg => by injection hg with hg; omega)
        have hnb : ∃ b', p + kk = n * b' ∧ 1 ≤ b' := by
          rcases Nat.lt_or_ge ch (P - p) with h | h
          · rcases Nat.lt_or_ge q p with h2 | h2
            · exact ⟨b + a, by rw [Nat.mul_add, ← hpb, ← HQA.out]; omega, by omega⟩
            · exact ⟨b + b, by rw [Nat.mul_add, ← hpb]; omega, by omega⟩
          · exact ⟨k, by rw [HPK.out]; omega, hk⟩
        have hch0 : 1 ≤ kk := by
          have : 1 ≤ p := by rw [hpb]; exact Nat.mul_pos hn hb1
          have : 1 ≤ q := by rw [HQA.out]; exact Nat.mul_pos hn ha1
          omega
        have hw9 : IntKind.i64.wrap ((p : Int) + (kk : Int)) = ((p + kk : Nat) : Int) := by rw [IntKind.wrap_i64]; omega
        clear hcp hK3 hG3 hone hsrv hp3 hpb hch KX HOv KB
        go_upto_region 20 with fail
        go_region_law (refine st_copy rfl _ _ rfl _ _ (by simp [Act.eval, Act.put]) (by simp [Act.eval, Act.put]) HCP.out ?_)
        go_wp2
        go_roundg (P + n - (p + kk))
        case measure => omega
        case rel =>
          obtain ⟨b', hb', hb2⟩ := hnb
          exact ⟨p + kk, b', _, rfl, by omega, by omega, hb', hb2, K3.out, HX3.out, HO3.out, L3.out⟩
      · have hpe : p = P := by omega
        clear hpb
        subst hpe
        have hpP' : ¬ ((p : Int) < (p : Int)) := by omega
        have hfin : WbP (rp l k) wc (.returned (.slice (some ⟨B, 0, none⟩) p p)) wr := by
          have hll9 : (rp l k).length = p := by rw [rp_len, HLL.out, HPK.out]
          refine ⟨_, rfl, .inr ⟨B, p, X.toArray, by rw [hll9], by rw [HB.out]; exact Nat.le_refl _, KX.out.lt, KX.out, by omega, by unfold maxLen; omega, by have := HXl.out; have := HCS.out; simp; omega, ?_⟩, by rw [HB.out]; exact KB.out⟩
          rw [hll9]
          have := HOv.out.done (k := k) (by rw [HLL.out, HPK.out])
          simpa using this
        clear KX HOv KB
        go_wp2
        go_ret
        exact hfin
theorem repeat_any (ao : Option Addr) (n c k : Nat) (l : List UInt8) (w : World) (HT : Hid (Tx w ao n c l)) (hn : n ≤ 65536) (hk : k ≤ 9999) (hb : n * k ≤ 65536) :
    Calls Tryz.prog 48 #[.slice ao n c, .int .i64 (k : Int)] w fun e w' => WbP (rp l k) w e w' := by
  rcases Nat.eq_zero_or_pos (n * k) with h | h
  · exact repeat_nil ao n c k l w HT hn hk h
  · exact repeat_yes ao n c k _ l w HT (Nat.pos_of_mul_pos_right h) (Nat.pos_of_mul_pos_left h) hk rfl hb
end Go.Proofs.YtppefcnopkmhbaaGreatDoor

namespace Go.Proofs.YtppefcnopkmhbaaGreatDoor
open Go.RowKit

set_option maxRecDepth 8000
theorem lof_at {ao : Option Addr} {n c k : Nat} {l : List UInt8} {w : World} (hk : k ≤ n) (HT : Hid (Tx w ao n c l)) :
    Calls Tryz.prog 77 #[.slice ao n c, .int .i64 (k : Int)] w fun e w' => e = .returned (.tuple #[.int .i64 (nl (l.take k) : Int), .int .i64 0]) ∧ Below w.heap.size w w' := by
  have := lof_any ao n c (k : Int) l w HT
  have hb : plB l (k : Int) = true := decide_eq_true (by have := HT.out.len; omega)
  have e : pr (aOf l (k : Int)) = .returned (.tuple #[.int .i64 (nl (l.take k) : Int), .int .i64 0]) := by unfold pr aOf ans; rw [hb]; rfl
  rwa [e] at this
theorem rof_at {ao : Option Addr} {n c k : Nat} {l : List UInt8} {w : World} (hk : k ≤ n) (HT : Hid (Tx w ao n c l)) :
    Calls Tryz.prog 43 #[.slice ao n c, .int .i64 (k : Int)] w fun e w' => e = .returned (.tuple #[.int .i64 (nl (l.take k) : Int), .int .i64 0]) ∧ w' = w := by
  have := refOf_any ao n c (k : Int) l w HT
  have hb : plB l (k : Int) = true := decide_eq_true (by have := HT.out.len; omega)
  have e : pr (aOf l (k : Int)) = .returned (.tuple #[.int .i64 (nl (l.take k) : Int), .int .i64 0]) := by unfold pr aOf ans; rw [hb]; rfl
  rwa [e] at this
/-- the lines of two places -/
def lo (l : List UInt8) (a b : Nat) : Rg := wh l (nl (l.take a) : Nat) (nl (l.take b) : Nat)
end Go.Proofs.YtppefcnopkmhbaaGreatDoor

namespace Go.Proofs.YtppefcnopkmhbaaGreatDoor
open Go.RowKit

set_option maxRecDepth 8000
end Go.Proofs.YtppefcnopkmhbaaGreatDoor

namespace Go.Proofs.YtppefcnopkmhbaaGreatDoor
open Go.RowKit

set_option maxRecDepth 8000
/-- a range as a call gives it, without an error -/
def r1 (r : Rg) : Ending := .returned (.agg #[.int .i64 r.F, .int .i64 r.T, .bool r.L, .bool r.D])
end Go.Proofs.YtppefcnopkmhbaaGreatDoor
