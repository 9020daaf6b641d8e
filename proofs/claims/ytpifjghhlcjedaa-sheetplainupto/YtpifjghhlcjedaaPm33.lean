/- The contracts of bits.Len and of highest. -/
import Derived.Test.YtpifjghhlcjedaaPm06
import Derived.Lib.Strings
import Derived.Lib.Slices
import Derived.Lib.Small
import Derived.Lib.Walk
import Derived.Lib.BitFns
namespace Go.Proofs.Ytpifjghhlcjedaa
open Go.RowKit

theorem lt_bitLenAux : ∀ (f x : Nat), x < 2 ^ f → x < 2 ^ Lib.bitLenAux f x
  | 0, x, h => by simpa [Lib.bitLenAux] using h
  | f + 1, x, h => by
    simp only [Lib.bitLenAux]
    split
    · subst x; simp
    · have := lt_bitLenAux f (x / 2) (by rw [Nat.pow_succ] at h; omega)
      rw [Nat.pow_add, Nat.pow_one]; omega
theorem lt_bitLen (x : Nat) (h : x ≤ 2097152) : x < 2 ^ Lib.bitLen x := lt_bitLenAux 64 x (by omega)

theorem l8_get (y : Int) (h : y.toNat < Lib.len8tab.size) : ((Lib.len8tab[y.toNat]'h).toNat : Int) = Lib.len8 y := by
  unfold Lib.len8
  have e : Lib.len8tab[y.toNat]? = some (Lib.len8tab[y.toNat]'h) := by rw [getElem?_pos]
  rw [e]; rfl
theorem ret_int {a b : Int} (h : a = b) : Ending.returned (.int .i64 a) = .returned (.int .i64 b) := by rw [h]

set_option maxHeartbeats 4000000 in
set_option maxRecDepth 100000 in
theorem len64_a (x : Int) (w : World) (h0 : 0 ≤ x) (h1 : x < 256) :
    Calls Try.prog 116 #[.int .u64 x] w fun e w' => e = .returned (.int .i64 (Lib.bitLen x.toNat)) ∧ w' = w := by
  go_enter Try.func116, Try.ntmps116
  go_wp2
  all_goals first
    | (go_ret; refine ⟨ret_int ?_, rfl⟩)
    | (exfalso; have hs := Lib.len8tab_size; omega)
  have l := Lib.bitLen_le8' x (by omega) (by omega)
  rw [l8_get x _, Lib.len8_of x (by omega) (by omega), w64 (x := (Lib.bitLen x.toNat : Int)) (by omega) (by omega), w64 (by omega) (by omega)]
set_option maxHeartbeats 4000000 in
set_option maxRecDepth 100000 in
theorem len64_b (x : Int) (w : World) (h0 : 256 ≤ x) (h1 : x < 65536) :
    Calls Try.prog 116 #[.int .u64 x] w fun e w' => e = .returned (.int .i64 (Lib.bitLen x.toNat)) ∧ w' = w := by
  go_enter Try.func116, Try.ntmps116
  go_wp2
  all_goals first
    | (go_ret; refine ⟨ret_int ?_, rfl⟩)
    | (exfalso; have hs := Lib.len8tab_size; omega)
  have l := Lib.bitLen_le8' (x / 256) (by omega) (by omega)
  have e : (x / 256).toNat = x.toNat / 256 := by omega
  have q := Lib.bitLen_shift8 x.toNat (by omega) (by omega)
  rw [l8_get (x / 256) _, Lib.len8_of (x / 256) (by omega) (by omega), w64 (x := (Lib.bitLen (x / 256).toNat : Int)) (by omega) (by omega), w64 (by omega) (by omega), q, e]
  omega
set_option maxHeartbeats 4000000 in
set_option maxRecDepth 100000 in
theorem len64_c (x : Int) (w : World) (h0 : 65536 ≤ x) (h1 : x ≤ 2097152) :
    Calls Try.prog 116 #[.int .u64 x] w fun e w' => e = .returned (.int .i64 (Lib.bitLen x.toNat)) ∧ w' = w := by
  go_enter Try.func116, Try.ntmps116
  go_wp2
  all_goals first
    | (go_ret; refine ⟨ret_int ?_, rfl⟩)
    | (exfalso; have hs := Lib.len8tab_size; omega)
  have l := Lib.bitLen_le8' (x / 65536) (by omega) (by omega)
  have e : (x / 65536).toNat = x.toNat / 65536 := by omega
  have q := Lib.bitLen_shift16 x.toNat (by omega) (by omega)
  rw [l8_get (x / 65536) _, Lib.len8_of (x / 65536) (by omega) (by omega), w64 (x := (Lib.bitLen (x / 65536).toNat : Int)) (by omega) (by omega), w64 (by omega) (by omega), q, e]
  omega
theorem len64_any (x : Int) (w : World) (h0 : 0 ≤ x) (h1 : x ≤ 2097152) :
    Calls Try.prog 116 #[.int .u64 x] w fun e w' => e = .returned (.int .i64 (Lib.bitLen x.toNat)) ∧ w' = w := by
  by_cases a : x < 256
  · exact len64_a x w h0 a
  · by_cases b : x < 65536
    · exact len64_b x w (by omega) b
    · exact len64_c x w (by omega) h1
set_option maxHeartbeats 4000000 in
theorem len_any (x : Int) (w : World) (h0 : 0 ≤ x) (h1 : x ≤ 2097152) :
    Calls Try.prog 103 #[.int .u64 x] w fun e w' => e = .returned (.int .i64 (Lib.bitLen x.toNat)) ∧ w' = w := by
  go_enter Try.func103, Try.ntmps103
  go_wp2_with (go_at_call 116; refine (len64_any x _ h0 h1).mono ?_; rintro e w' ⟨rfl, rfl⟩)
  go_ret
  exact ⟨rfl, rfl⟩
theorem bitLen_small (n : Nat) (h : n ≤ 1048576) : Lib.bitLen n ≤ 21 := Lib.bitLen_le n 21 (by omega) (by omega)
set_option maxHeartbeats 4000000 in
theorem highest_any (n : Nat) (w : World) (h1 : n ≤ 1048576) :
    Calls Try.prog 75 #[.int .i64 (n : Nat)] w fun e w' => e = .returned (.int .i64 ((2 * Lib.bitLen n : Nat) : Int)) ∧ w' = w := by
  have hb := bitLen_small n h1
  have hw : wrap64 (2 * (Lib.bitLen n : Int)) = ((2 * Lib.bitLen n : Nat) : Int) := by rw [w64 (by omega) (by omega)]; omega
  go_enter Try.func75, Try.ntmps75
  go_wp2_with (go_at_call 103; refine (len_any (n : Int) _ (by omega) (by omega)).mono ?_; rintro e w' ⟨rfl, rfl⟩; rw [show ((n : Int)).toNat = n from rfl])
  go_ret
  exact ⟨rfl, rfl⟩
end Go.Proofs.Ytpifjghhlcjedaa

/- Rows read as a tree: plain data; what reading a tree's own rows gives; the contract of balanced. -/
namespace Go.Proofs.Ytpifjghhlcjedaa
open Go.RowKit

/-- the same row? -/
def eqRw (a b : Rw) : Bool := decide (a.p.s = b.p.s) && decide (a.p.o = b.p.o) && decide (a.p.l = b.p.l) && decide (a.p.n = b.p.n) && (a.red == b.red) && (a.left == b.left) && (a.right == b.right) && decide (a.cnt = b.cnt) && decide (a.byt = b.byt) && decide (a.lin = b.lin)
theorem eqRw_iff {a b : Rw} : eqRw a b = true ↔ a = b := by
  obtain ⟨⟨a0, a1, a2, a3⟩, a4, a5, a6, a7, a8, a9⟩ := a
  obtain ⟨⟨b0, b1, b2, b3⟩, b4, b5, b6, b7, b8, b9⟩ := b
  simp [eqRw, and_assoc]

/-- what a node alone is asked -/
def balB (c : Bool) (l r : Tr) : Bool := decide (l.bh = r.bh) && !(c && (l.red || r.red))

/-- what is made of a row and what was read for its kids -/
def closeN (x : Rw) (l r : Tr) (rest : List Rw) : Option (Tr × List Rw) :=
  if eqRw (rowOf x.red l x.p r) x = true ∧ balB x.red l r = true then some ((Tr.mk (some (x.red, l, x.p, r))), rest) else none

def readN : Nat → List Rw → Option (Tr × List Rw)
  | 0, _ => none
  | _ + 1, [] => none
  | h + 1, x :: L => if fitB x.p.l x.p.n = true then
      match (if x.left = true then readN h L else some ((Tr.mk none), L)) with
      | none => none
      | some (l, L1) => match (if x.right = true then readN h L1 else some ((Tr.mk none), L1)) with
        | none => none
        | some (r, L2) => closeN x l r L2
    else none
def readK (h : Nat) (has : Bool) (L : List Rw) : Option (Tr × List Rw) := if has = true then readN h L else some ((Tr.mk none), L)
theorem readN_zero (L : List Rw) : readN 0 L = none := by simp [readN]
theorem readN_nil (h : Nat) : readN h [] = none := by cases h <;> simp [readN]
theorem readN_succ (h : Nat) (x : Rw) (L : List Rw) : readN (h + 1) (x :: L) = if fitB x.p.l x.p.n = true then
      match readK h x.left L with
      | none => none
      | some (l, L1) => match readK h x.right L1 with
        | none => none
        | some (r, L2) => closeN x l r L2
    else none := by unfold readK; conv => lhs; rw [readN]

/-- what was read: the rows are the tree's and the rest; it is red-black, of fit pieces. -/
def Reads (L : List Rw) (t : Tr) (rest : List Rw) : Prop := L = rowsT t ++ rest ∧ t.bal ∧ t.fits

theorem balB_iff {c : Bool} {l r : Tr} : balB c l r = true ↔ l.bh = r.bh ∧ (c = true → l.red = false ∧ r.red = false) := by
  unfold balB
  cases c <;> cases l.red <;> cases r.red <;> simp

theorem readN_ok : ∀ (h : Nat) (L : List Rw) (t : Tr) (rest : List Rw), readN h L = some (t, rest) → Reads L t rest
  | 0, L, t, rest, e => by rw [readN_zero] at e; cases e
  | h + 1, [], t, rest, e => by rw [readN_nil] at e; cases e
  | h + 1, x :: L, t, rest, e => by
    have kid : ∀ (b : Bool) (L : List Rw) (t : Tr) (rest : List Rw), readK h b L = some (t, rest) → Reads L t rest := by
      intro b L t rest e
      unfold readK at e
      split at e
      · exact readN_ok h L t rest e
      · simp at e; obtain ⟨rfl, rfl⟩ := e; exact ⟨by simp [rowsT], trivial, trivial⟩
    rw [readN_succ] at e
    split at e
    · rename_i hf
      cases hl : readK h x.left L with
      | none => rw [hl] at e; simp at e
      | some pl =>
        obtain ⟨l, L1⟩ := pl
        rw [hl] at e; simp only at e
        cases hr : readK h x.right L1 with
        | none => rw [hr] at e; simp at e
        | some pr =>
          obtain ⟨r, L2⟩ := pr
          rw [hr] at e; simp only at e
          unfold closeN at e
          split at e
          · rename_i hc
            simp at e; obtain ⟨rfl, rfl⟩ := e
            obtain ⟨a1, a2, a3⟩ := kid _ _ _ _ hl
            obtain ⟨b1, b2, b3⟩ := kid _ _ _ _ hr
            have hb := balB_iff.1 hc.2
            refine ⟨?_, ⟨a2, b2, hb.1, hb.2⟩, ⟨a3, (fitB_iff x.p.s x.p.o x.p.l x.p.n).1 hf, b3⟩⟩
            simp only [rowsT]
            rw [eqRw_iff.1 hc.1, a1, b1]; simp
          · simp at e
    · simp at e

/-- a tree's own rows are read as that tree, where the height is enough -/
theorem readN_rows : ∀ (t : Tr) (h : Nat) (rest : List Rw), t.has = true → t.ht ≤ h → t.bal → t.fits → readN h (rowsT t ++ rest) = some (t, rest)
  | (Tr.mk none), h, rest, e, _, _, _ => by simp [Tr.has] at e
  | (Tr.mk (some (c, l, p, r))), 0, rest, _, hh, _, _ => by simp [Tr.ht] at hh
  | (Tr.mk (some (c, l, p, r))), h + 1, rest, _, hh, hb, hf => by
    have kid : ∀ (u : Tr) (rest : List Rw), u.ht ≤ h → u.bal → u.fits → (∀ rest, u.has = true → readN h (rowsT u ++ rest) = some (u, rest)) → readK h u.has (rowsT u ++ rest) = some (u, rest) := by
      intro u rest h1 h2 h3 ih
      unfold readK
      cases u using Tr.el with
      | nil => simp [Tr.has, rowsT]
      | node c' l' p' r' => rw [if_pos (show ((Tr.mk (some (c', l', p', r')))).has = true from rfl)]; exact ih rest rfl
    simp only [Tr.ht] at hh
    have kl := kid l (rowsT r ++ rest) (by omega) hb.1 hf.1 (fun rest e => readN_rows l h rest e (by omega) hb.1 hf.1)
    have kr := kid r rest (by omega) hb.2.1 hf.2.2 (fun rest e => readN_rows r h rest e (by omega) hb.2.1 hf.2.2)
    have hfit : fitB p.l p.n = true := (fitB_iff p.s p.o p.l p.n).2 hf.2.1
    simp only [rowsT, List.cons_append, readN_succ]
    have e1 : (rowOf c l p r).p = p := rfl
    have e2 : (rowOf c l p r).left = l.has := rfl
    have e3 : (rowOf c l p r).right = r.has := rfl
    have e4 : (rowOf c l p r).red = c := rfl
    rw [e1, e2, e3, if_pos hfit, List.append_assoc, kl]
    simp only
    rw [kr]
    simp only
    unfold closeN
    rw [if_pos ⟨eqRw_iff.2 (by rw [e4, e1]), by rw [e4]; exact balB_iff.2 ⟨hb.2.2.1, hb.2.2.2⟩⟩, e4, e1]

/-- Check, over plain data -/
def checkB (L : List Rw) : Bool :=
  match L with
  | [] => true
  | L => match readN (2 * Lib.bitLen L.length) L with
    | some (t, []) => !t.red
    | _ => false

theorem bh_low {t : Tr} (h : t.whole) (hz : t.size ≤ 1048576) : t.ht ≤ 2 * Lib.bitLen t.size := by
  have a := Tr.bal_size t h.1
  have b := Tr.bal_ht t h.1
  rw [h.2] at b
  have c := lt_bitLen t.size (by omega)
  have d : t.bh ≤ Lib.bitLen t.size := by
    apply Nat.le_of_not_lt
    intro hlt
    have : 2 ^ (Lib.bitLen t.size + 1) ≤ 2 ^ t.bh := Nat.pow_le_pow_right (by omega) hlt
    rw [Nat.pow_succ] at this
    omega
  simp at b
  omega

theorem checkB_rows {t : Tr} (h : t.whole) (hf : t.fine) : checkB (rowsT t) = true := by
  cases t using Tr.el with
  | nil => rfl
  | node c l p r =>
    have k := readN_rows ((Tr.mk (some (c, l, p, r)))) (2 * Lib.bitLen ((Tr.mk (some (c, l, p, r)))).size) [] rfl (bh_low h hf.2) h.1 hf.1
    rw [List.append_nil] at k
    have z := rowsT_length ((Tr.mk (some (c, l, p, r))))
    unfold checkB
    split
    · rename_i e; rfl
    · rw [z, k]; simp [h.2]

theorem checkB_iff {L : List Rw} (hz : L.length ≤ 1048576) : checkB L = true ↔ ∃ t : Tr, t.whole ∧ t.fits ∧ rowsT t = L := by
  constructor
  · intro h
    unfold checkB at h
    split at h
    · exact ⟨(Tr.mk none), ⟨trivial, rfl⟩, trivial, rfl⟩
    · split at h
      · rename_i t e
        obtain ⟨a, b, c⟩ := readN_ok _ _ _ _ e
        exact ⟨t, ⟨b, by simpa using h⟩, c, by rw [a]; simp⟩
      · cases h
  · rintro ⟨t, h1, h2, rfl⟩
    exact checkB_rows h1 ⟨h2, by rw [← rowsT_length]; exact hz⟩

theorem below_drewN' (w : World) (n : Nat) : Below w.heap.size w (w.drewN n) := ⟨rfl, rfl, rfl, Nat.le_refl _, fun _ _ => rfl⟩
theorem black_eq (t : Tr) (a : Option Addr) (n : Nat) (w : World) (e : t.bh = n) (h : At w t a) : Calls Try.prog 90 #[.pointer a] w fun e w' => e = .returned (.int .i64 (n : Nat)) ∧ w' = w := by
  subst e; exact black_any t a w h
theorem isRed_eq (t : Tr) (a : Option Addr) (c : Bool) (w : World) (e : t.red = c) (h : At w t a) : Calls Try.prog 76 #[.pointer a] w fun e w' => e = .returned (.bool c) ∧ w' = w := by
  subst e; exact isRed_any t a w h
set_option maxHeartbeats 4000000 in
theorem balanced_ne_t (c : Bool) (l : Tr) (s o n k : Int) (r : Tr) (a : Option Addr) (w : World) (h5 : ((l.bh : Int) == (r.bh : Int)) = false) (h1 : l.red = true) (h : Hid (At w ((Tr.mk (some (c, l, ⟨s, o, n, k⟩, r)))) a)) :
    Calls Try.prog 102 #[.pointer a] w fun e w' => e = .returned (.bool false) ∧ ∃ m, w' = w.drewN m := by
  obtain ⟨b, la, ra, rfl, hn, hl, hr⟩ := h.out
  have HL : Hid (At w l la) := hl
  have HR : Hid (At w r ra) := hr
  have c10 := (ncells hn).c10
  have c11 := (ncells hn).c11
  clear hn hl hr
  go_enter Try.func102, Try.ntmps102
  go_wp2_with (first | (go_at_call_of 76 (Value.pointer la); refine (isRed_any l _ _ HL).mono ?_; rw [h1]; rintro e w' ⟨rfl, rfl⟩)
                     | (go_at_call_of 76 (Value.pointer ra); refine (isRed_any r _ _ HR).mono ?_; rintro e w' ⟨rfl, rfl⟩))
  go_quiet (first | (go_at_call_of 90 (Value.pointer la); exact Calls.quiet_of_same (black_eq l la _ _ rfl (HL.out.keep (below_drewN' _ _))))
                  | (go_at_call_of 90 (Value.pointer ra); exact Calls.quiet_of_same (black_any r ra _ (HR.out.keep (below_drewN' _ _))))
                  | (go_at_call 76; exact Calls.quiet_of_same (isRed_eq _ _ c _ rfl (h.out.keep (below_drewN' _ _)))))
  go_wp2
  go_ret
  exact ⟨rfl, _, rfl⟩
set_option maxHeartbeats 4000000 in
theorem balanced_b_t (l : Tr) (s o n k : Int) (r : Tr) (a : Option Addr) (w : World) (h5 : l.bh = r.bh) (h1 : l.red = true) (h : Hid (At w ((Tr.mk (some (false, l, ⟨s, o, n, k⟩, r)))) a)) :
    Calls Try.prog 102 #[.pointer a] w fun e w' => e = .returned (.bool true) ∧ ∃ m, w' = w.drewN m := by
  obtain ⟨b, la, ra, rfl, hn, hl, hr⟩ := h.out
  have HL : Hid (At w l la) := hl
  have HR : Hid (At w r ra) := hr
  have c10 := (ncells hn).c10
  have c11 := (ncells hn).c11
  clear hn hl hr
  go_enter Try.func102, Try.ntmps102
  go_wp2_with (first | (go_at_call_of 76 (Value.pointer la); refine (isRed_any l _ _ HL).mono ?_; rw [h1]; rintro e w' ⟨rfl, rfl⟩)
                     | (go_at_call_of 76 (Value.pointer ra); refine (isRed_any r _ _ HR).mono ?_; rintro e w' ⟨rfl, rfl⟩))
  go_quiet (first | (go_at_call_of 90 (Value.pointer la); exact Calls.quiet_of_same (black_eq l la _ _ h5 (HL.out.keep (below_drewN' _ _))))
                  | (go_at_call_of 90 (Value.pointer ra); exact Calls.quiet_of_same (black_any r ra _ (HR.out.keep (below_drewN' _ _))))
                  | (go_at_call 76; exact Calls.quiet_of_same (isRed_eq _ _ false _ rfl (h.out.keep (below_drewN' _ _)))))
  go_wp2
  go_ret
  exact ⟨rfl, _, rfl⟩
set_option maxHeartbeats 4000000 in
theorem balanced_r_t (l : Tr) (s o n k : Int) (r : Tr) (a : Option Addr) (w : World) (h5 : l.bh = r.bh) (h1 : l.red = true) (h : Hid (At w ((Tr.mk (some (true, l, ⟨s, o, n, k⟩, r)))) a)) :
    Calls Try.prog 102 #[.pointer a] w fun e w' => e = .returned (.bool false) ∧ ∃ m, w' = w.drewN m := by
  obtain ⟨b, la, ra, rfl, hn, hl, hr⟩ := h.out
  have HL : Hid (At w l la) := hl
  have HR : Hid (At w r ra) := hr
  have c10 := (ncells hn).c10
  have c11 := (ncells hn).c11
  clear hn hl hr
  go_enter Try.func102, Try.ntmps102
  go_wp2_with (first | (go_at_call_of 76 (Value.pointer la); refine (isRed_any l _ _ HL).mono ?_; rw [h1]; rintro e w' ⟨rfl, rfl⟩)
                     | (go_at_call_of 76 (Value.pointer ra); refine (isRed_any r _ _ HR).mono ?_; rintro e w' ⟨rfl, rfl⟩))
  go_quiet (first | (go_at_call_of 90 (Value.pointer la); exact Calls.quiet_of_same (black_eq l la _ _ h5 (HL.out.keep (below_drewN' _ _))))
                  | (go_at_call_of 90 (Value.pointer ra); exact Calls.quiet_of_same (black_any r ra _ (HR.out.keep (below_drewN' _ _))))
                  | (go_at_call 76; exact Calls.quiet_of_same (isRed_eq _ _ true _ rfl (h.out.keep (below_drewN' _ _)))))
  go_wp2
  go_ret
  exact ⟨rfl, _, rfl⟩
set_option maxHeartbeats 4000000 in
theorem balanced_ne_ft (c : Bool) (l : Tr) (s o n k : Int) (r : Tr) (a : Option Addr) (w : World) (h5 : ((l.bh : Int) == (r.bh : Int)) = false) (h1 : l.red = false) (h2 : r.red = true) (h : Hid (At w ((Tr.mk (some (c, l, ⟨s, o, n, k⟩, r)))) a)) :
    Calls Try.prog 102 #[.pointer a] w fun e w' => e = .returned (.bool false) ∧ ∃ m, w' = w.drewN m := by
  obtain ⟨b, la, ra, rfl, hn, hl, hr⟩ := h.out
  have HL : Hid (At w l la) := hl
  have HR : Hid (At w r ra) := hr
  have c10 := (ncells hn).c10
  have c11 := (ncells hn).c11
  clear hn hl hr
  go_enter Try.func102, Try.ntmps102
  go_wp2_with (first | (go_at_call_of 76 (Value.pointer la); refine (isRed_any l _ _ HL).mono ?_; rw [h1]; rintro e w' ⟨rfl, rfl⟩)
                     | (go_at_call_of 76 (Value.pointer ra); refine (isRed_any r _ _ HR).mono ?_; rw [h2]; rintro e w' ⟨rfl, rfl⟩))
  go_quiet (first | (go_at_call_of 90 (Value.pointer la); exact Calls.quiet_of_same (black_eq l la _ _ rfl (HL.out.keep (below_drewN' _ _))))
                  | (go_at_call_of 90 (Value.pointer ra); exact Calls.quiet_of_same (black_any r ra _ (HR.out.keep (below_drewN' _ _))))
                  | (go_at_call 76; exact Calls.quiet_of_same (isRed_eq _ _ c _ rfl (h.out.keep (below_drewN' _ _)))))
  go_wp2
  go_ret
  exact ⟨rfl, _, rfl⟩
set_option maxHeartbeats 4000000 in
theorem balanced_b_ft (l : Tr) (s o n k : Int) (r : Tr) (a : Option Addr) (w : World) (h5 : l.bh = r.bh) (h1 : l.red = false) (h2 : r.red = true) (h : Hid (At w ((Tr.mk (some (false, l, ⟨s, o, n, k⟩, r)))) a)) :
    Calls Try.prog 102 #[.pointer a] w fun e w' => e = .returned (.bool true) ∧ ∃ m, w' = w.drewN m := by
  obtain ⟨b, la, ra, rfl, hn, hl, hr⟩ := h.out
  have HL : Hid (At w l la) := hl
  have HR : Hid (At w r ra) := hr
  have c10 := (ncells hn).c10
  have c11 := (ncells hn).c11
  clear hn hl hr
  go_enter Try.func102, Try.ntmps102
  go_wp2_with (first | (go_at_call_of 76 (Value.pointer la); refine (isRed_any l _ _ HL).mono ?_; rw [h1]; rintro e w' ⟨rfl, rfl⟩)
                     | (go_at_call_of 76 (Value.pointer ra); refine (isRed_any r _ _ HR).mono ?_; rw [h2]; rintro e w' ⟨rfl, rfl⟩))
  go_quiet (first | (go_at_call_of 90 (Value.pointer la); exact Calls.quiet_of_same (black_eq l la _ _ h5 (HL.out.keep (below_drewN' _ _))))
                  | (go_at_call_of 90 (Value.pointer ra); exact Calls.quiet_of_same (black_any r ra _ (HR.out.keep (below_drewN' _ _))))
                  | (go_at_call 76; exact Calls.quiet_of_same (isRed_eq _ _ false _ rfl (h.out.keep (below_drewN' _ _)))))
  go_wp2
  go_ret
  exact ⟨rfl, _, rfl⟩
set_option maxHeartbeats 4000000 in
theorem balanced_r_ft (l : Tr) (s o n k : Int) (r : Tr) (a : Option Addr) (w : World) (h5 : l.bh = r.bh) (h1 : l.red = false) (h2 : r.red = true) (h : Hid (At w ((Tr.mk (some (true, l, ⟨s, o, n, k⟩, r)))) a)) :
    Calls Try.prog 102 #[.pointer a] w fun e w' => e = .returned (.bool false) ∧ ∃ m, w' = w.drewN m := by
  obtain ⟨b, la, ra, rfl, hn, hl, hr⟩ := h.out
  have HL : Hid (At w l la) := hl
  have HR : Hid (At w r ra) := hr
  have c10 := (ncells hn).c10
  have c11 := (ncells hn).c11
  clear hn hl hr
  go_enter Try.func102, Try.ntmps102
  go_wp2_with (first | (go_at_call_of 76 (Value.pointer la); refine (isRed_any l _ _ HL).mono ?_; rw [h1]; rintro e w' ⟨rfl, rfl⟩)
                     | (go_at_call_of 76 (Value.pointer ra); refine (isRed_any r _ _ HR).mono ?_; rw [h2]; rintro e w' ⟨rfl, rfl⟩))
  go_quiet (first | (go_at_call_of 90 (Value.pointer la); exact Calls.quiet_of_same (black_eq l la _ _ h5 (HL.out.keep (below_drewN' _ _))))
                  | (go_at_call_of 90 (Value.pointer ra); exact Calls.quiet_of_same (black_any r ra _ (HR.out.keep (below_drewN' _ _))))
                  | (go_at_call 76; exact Calls.quiet_of_same (isRed_eq _ _ true _ rfl (h.out.keep (below_drewN' _ _)))))
  go_wp2
  go_ret
  exact ⟨rfl, _, rfl⟩
set_option maxHeartbeats 4000000 in
theorem balanced_ne_ff (c : Bool) (l : Tr) (s o n k : Int) (r : Tr) (a : Option Addr) (w : World) (h5 : ((l.bh : Int) == (r.bh : Int)) = false) (h1 : l.red = false) (h2 : r.red = false) (h : Hid (At w ((Tr.mk (some (c, l, ⟨s, o, n, k⟩, r)))) a)) :
    Calls Try.prog 102 #[.pointer a] w fun e w' => e = .returned (.bool false) ∧ ∃ m, w' = w.drewN m := by
  obtain ⟨b, la, ra, rfl, hn, hl, hr⟩ := h.out
  have HL : Hid (At w l la) := hl
  have HR : Hid (At w r ra) := hr
  have c10 := (ncells hn).c10
  have c11 := (ncells hn).c11
  clear hn hl hr
  go_enter Try.func102, Try.ntmps102
  go_wp2_with (first | (go_at_call_of 76 (Value.pointer la); refine (isRed_any l _ _ HL).mono ?_; rw [h1]; rintro e w' ⟨rfl, rfl⟩)
                     | (go_at_call_of 76 (Value.pointer ra); refine (isRed_any r _ _ HR).mono ?_; rw [h2]; rintro e w' ⟨rfl, rfl⟩))
  go_quiet (first | (go_at_call_of 90 (Value.pointer la); exact Calls.quiet_of_same (black_eq l la _ _ rfl (HL.out.keep (below_drewN' _ _))))
                  | (go_at_call_of 90 (Value.pointer ra); exact Calls.quiet_of_same (black_any r ra _ (HR.out.keep (below_drewN' _ _))))
                  | (go_at_call 76; exact Calls.quiet_of_same (isRed_eq _ _ c _ rfl (h.out.keep (below_drewN' _ _)))))
  go_wp2
  go_ret
  exact ⟨rfl, _, rfl⟩
set_option maxHeartbeats 4000000 in
theorem balanced_b_ff (l : Tr) (s o n k : Int) (r : Tr) (a : Option Addr) (w : World) (h5 : l.bh = r.bh) (h1 : l.red = false) (h2 : r.red = false) (h : Hid (At w ((Tr.mk (some (false, l, ⟨s, o, n, k⟩, r)))) a)) :
    Calls Try.prog 102 #[.pointer a] w fun e w' => e = .returned (.bool true) ∧ ∃ m, w' = w.drewN m := by
  obtain ⟨b, la, ra, rfl, hn, hl, hr⟩ := h.out
  have HL : Hid (At w l la) := hl
  have HR : Hid (At w r ra) := hr
  have c10 := (ncells hn).c10
  have c11 := (ncells hn).c11
  clear hn hl hr
  go_enter Try.func102, Try.ntmps102
  go_wp2_with (first | (go_at_call_of 76 (Value.pointer la); refine (isRed_any l _ _ HL).mono ?_; rw [h1]; rintro e w' ⟨rfl, rfl⟩)
                     | (go_at_call_of 76 (Value.pointer ra); refine (isRed_any r _ _ HR).mono ?_; rw [h2]; rintro e w' ⟨rfl, rfl⟩))
  go_quiet (first | (go_at_call_of 90 (Value.pointer la); exact Calls.quiet_of_same (black_eq l la _ _ h5 (HL.out.keep (below_drewN' _ _))))
                  | (go_at_call_of 90 (Value.pointer ra); exact Calls.quiet_of_same (black_any r ra _ (HR.out.keep (below_drewN' _ _))))
                  | (go_at_call 76; exact Calls.quiet_of_same (isRed_eq _ _ false _ rfl (h.out.keep (below_drewN' _ _)))))
  go_wp2
  go_ret
  exact ⟨rfl, _, rfl⟩
set_option maxHeartbeats 4000000 in
theorem balanced_r_ff (l : Tr) (s o n k : Int) (r : Tr) (a : Option Addr) (w : World) (h5 : l.bh = r.bh) (h1 : l.red = false) (h2 : r.red = false) (h : Hid (At w ((Tr.mk (some (true, l, ⟨s, o, n, k⟩, r)))) a)) :
    Calls Try.prog 102 #[.pointer a] w fun e w' => e = .returned (.bool true) ∧ ∃ m, w' = w.drewN m := by
  obtain ⟨b, la, ra, rfl, hn, hl, hr⟩ := h.out
  have HL : Hid (At w l la) := hl
  have HR : Hid (At w r ra) := hr
  have c10 := (ncells hn).c10
  have c11 := (ncells hn).c11
  clear hn hl hr
  go_enter Try.func102, Try.ntmps102
  go_wp2_with (first | (go_at_call_of 76 (Value.pointer la); refine (isRed_any l _ _ HL).mono ?_; rw [h1]; rintro e w' ⟨rfl, rfl⟩)
                     | (go_at_call_of 76 (Value.pointer ra); refine (isRed_any r _ _ HR).mono ?_; rw [h2]; rintro e w' ⟨rfl, rfl⟩))
  go_quiet (first | (go_at_call_of 90 (Value.pointer la); exact Calls.quiet_of_same (black_eq l la _ _ h5 (HL.out.keep (below_drewN' _ _))))
                  | (go_at_call_of 90 (Value.pointer ra); exact Calls.quiet_of_same (black_any r ra _ (HR.out.keep (below_drewN' _ _))))
                  | (go_at_call 76; exact Calls.quiet_of_same (isRed_eq _ _ true _ rfl (h.out.keep (below_drewN' _ _)))))
  go_wp2
  go_ret
  exact ⟨rfl, _, rfl⟩
theorem balanced_any (c : Bool) (l : Tr) (s o n k : Int) (r : Tr) (a : Option Addr) (w : World) (h : At w ((Tr.mk (some (c, l, ⟨s, o, n, k⟩, r)))) a) :
    Calls Try.prog 102 #[.pointer a] w fun e w' => e = .returned (.bool (balB c l r)) ∧ ∃ m, w' = w.drewN m := by
  by_cases h3 : l.bh = r.bh
  · cases h1 : l.red with
    | true =>
      cases c with
      | false => rw [show balB false l r = true from by simp [balB, h3]]; exact balanced_b_t l s o n k r a w h3 h1 h
      | true => rw [show balB true l r = false from by simp [balB, h1]]; exact balanced_r_t l s o n k r a w h3 h1 h
    | false =>
      cases h2 : r.red with
      | true =>
        cases c with
        | false => rw [show balB false l r = true from by simp [balB, h3]]; exact balanced_b_ft l s o n k r a w h3 h1 h2 h
        | true => rw [show balB true l r = false from by simp [balB, h2]]; exact balanced_r_ft l s o n k r a w h3 h1 h2 h
      | false =>
        cases c with
        | false => rw [show balB false l r = true from by simp [balB, h3]]; exact balanced_b_ff l s o n k r a w h3 h1 h2 h
        | true => rw [show balB true l r = true from by simp [balB, h1, h2, h3]]; exact balanced_r_ff l s o n k r a w h3 h1 h2 h
  · rw [show balB c l r = false from by simp [balB, h3]]
    cases h1 : l.red with
    | true => exact balanced_ne_t c l s o n k r a w (ne_bh h3) h1 h
    | false =>
      cases h2 : r.red with
      | true => exact balanced_ne_ft c l s o n k r a w (ne_bh h3) h1 h2 h
      | false => exact balanced_ne_ff c l s o n k r a w (ne_bh h3) h1 h2 h
end Go.Proofs.Ytpifjghhlcjedaa

/- The contracts of readKid, readNode and Check. -/
namespace Go.Proofs.Ytpifjghhlcjedaa
open Go.RowKit

/-- The rows of L lie one behind the other in block b of W, from the cell off on. -/
def RowR (W : World) (b off : Nat) (L : List Rw) : Prop :=
  ∀ j x, L[j]? = some x → W.cell? ⟨b, off + j * 10, none⟩ = some (.int .i64 x.p.s) ∧ W.cell? ⟨b, off + j * 10 + 1, none⟩ = some (.int .i64 x.p.o) ∧ W.cell? ⟨b, off + j * 10 + 2, none⟩ = some (.int .i64 x.p.l) ∧ W.cell? ⟨b, off + j * 10 + 3, none⟩ = some (.int .i64 x.p.n) ∧ W.cell? ⟨b, off + j * 10 + 4, none⟩ = some (.bool x.red) ∧ W.cell? ⟨b, off + j * 10 + 5, none⟩ = some (.bool x.left) ∧ W.cell? ⟨b, off + j * 10 + 6, none⟩ = some (.bool x.right) ∧ W.cell? ⟨b, off + j * 10 + 7, none⟩ = some (.int .i64 x.cnt) ∧ W.cell? ⟨b, off + j * 10 + 8, none⟩ = some (.int .i64 x.byt) ∧ W.cell? ⟨b, off + j * 10 + 9, none⟩ = some (.int .i64 x.lin)
theorem RowR.keep {w w' : World} {b off : Nat} {L : List Rw} (h : RowR w b off L) (hb : Below w.heap.size w w') : RowR w' b off L := by
  intro j p hj
  obtain ⟨h0, h1, h2, h3, h4, h5, h6, h7, h8, h9⟩ := h j p hj
  have lt := cell_lt h0
  refine ⟨?_, ?_, ?_, ?_, ?_, ?_, ?_, ?_, ?_, ?_⟩ <;> (rw [hb.cell lt]; assumption)
theorem RowR.drop {w : World} {b off : Nat} {L : List Rw} (h : RowR w b off L) (m : Nat) : RowR w b (off + m * 10) (L.drop m) := by
  intro j p hj
  rw [List.getElem?_drop] at hj
  have := h (m + j) p hj
  rw [show off + (m + j) * 10 = off + m * 10 + j * 10 from by omega] at this
  exact this

/-- A list value whose rows are L. -/
def Rdr (W : World) (v : Value) (L : List Rw) : Prop := ∃ ao n c, v = .slice ao n c ∧ n = L.length ∧ n ≤ c ∧ (L = [] ∨ ∃ b off, ao = some ⟨b, off, none⟩ ∧ RowR W b off L)
theorem Rdr.keep {w w' : World} {v : Value} {L : List Rw} (h : Rdr w v L) (hb : Below w.heap.size w w') : Rdr w' v L := by
  obtain ⟨ao, n, c, h1, h2, h3, h4⟩ := h
  refine ⟨ao, n, c, h1, h2, h3, ?_⟩
  rcases h4 with h4 | ⟨b, off, h5, h6⟩
  · exact .inl h4
  · exact .inr ⟨b, off, h5, h6.keep hb⟩

/-- What reading gives. -/
def RdGave (w : World) : Option (Tr × List Rw) → Ending → World → Prop
  | none, e, w' => (∃ v1 v2, e = .returned (.tuple #[v1, v2, .bool false])) ∧ Below w.heap.size w w'
  | some (t, rest), e, w' => (∃ a ao n c, e = .returned (.tuple #[.pointer a, .slice ao n c, .bool true]) ∧ At w' t a ∧ Rdr w' (.slice ao n c) rest) ∧ Below w.heap.size w w'

set_option maxHeartbeats 400000 in
theorem readNode_nil (ao : Option Addr) (c : Nat) (h : Int) (w : World) : Calls Try.prog 74 #[.slice ao 0 c, .int .i64 h] w fun e w' => RdGave w none e w' := by
  go_enter Try.func74, Try.ntmps74
  go_wp2
  go_ret3
  exact ⟨⟨_, _, rfl⟩, Below.refl _ _⟩
set_option maxHeartbeats 400000 in
theorem readNode_zero (ao : Option Addr) (n c : Nat) (w : World) (hn : ((n : Int) == 0) = false) : Calls Try.prog 74 #[.slice ao n c, .int .i64 0] w fun e w' => RdGave w none e w' := by
  go_enter Try.func74, Try.ntmps74
  go_wp2
  go_ret3
  exact ⟨⟨_, _, rfl⟩, Below.refl _ _⟩
set_option maxHeartbeats 400000 in
theorem readNode_unfit (b off n c : Nat) (h : Nat) (ps po pl pn : Int) (w : World) (hn : ((n : Int) == 0) = false) (hnp : (0 : Int) < (n : Int)) (hf : fitB pl pn = false)
    (r0 : w.cell? ⟨b, off, none⟩ = some (.int .i64 ps)) (r1 : w.cell? ⟨b, off + 1, none⟩ = some (.int .i64 po)) (r2 : w.cell? ⟨b, off + 2, none⟩ = some (.int .i64 pl)) (r3 : w.cell? ⟨b, off + 3, none⟩ = some (.int .i64 pn)) :
    Calls Try.prog 74 #[.slice (some ⟨b, off, none⟩) n c, .int .i64 ((h + 1 : Nat) : Int)] w fun e w' => RdGave w none e w' := by
  go_enter Try.func74, Try.ntmps74
  go_wp2_with (go_at_call 53; refine (fit_any ps po pl pn _).mono ?_; rw [hf]; rintro e w' ⟨rfl, rfl⟩)
  go_ret3
  exact ⟨⟨_, _, rfl⟩, bAlloc (Below.refl _ _) _⟩

theorem balanced_drewN (c : Bool) (l : Tr) (s o n k : Int) (r : Tr) (a : Option Addr) (w : World) (i : Nat) (h : At w ((Tr.mk (some (c, l, ⟨s, o, n, k⟩, r)))) a) :
    Calls Try.prog 102 #[.pointer a] (w.drewN i) fun e w' => e = .returned (.bool (balB c l r)) ∧ ∃ m, w' = (w.drewN i).drewN m :=
  balanced_any c l s o n k r a _ (h.keep (below_drewN' _ _))

end Go.Proofs.Ytpifjghhlcjedaa

/- readNode, one way. -/
namespace Go.Proofs.Ytpifjghhlcjedaa
open Go.RowKit

set_option maxRecDepth 100000 in
set_option maxHeartbeats 4000000 in
theorem readNode_left (b off n c : Nat) (h : Nat) (A : Addr) (ps po pl pn : Int) (xr : Bool) (xl xg : Bool) (xc xb xn : Int) (w : World) (hn : ((n : Int) == 0) = false) (hnp : (0 : Int) < (n : Int)) (hn1 : (1 : Int) ≤ (n : Int)) (_hnc : (n : Int) ≤ (c : Int)) (_h1c : (1 : Int) ≤ (c : Int)) (hw : IntKind.i64.wrap (h : Int) = (h : Int)) (hw' : wrap64 (h : Int) = (h : Int)) (hf : fitB pl pn = true)
    (hA : (if c = 1 then some (⟨b, off, none⟩ : Addr) else some ⟨b, off + 10, none⟩) = some A)
    (r0 : w.cell? ⟨b, off, none⟩ = some (.int .i64 ps)) (r1 : w.cell? ⟨b, off + 1, none⟩ = some (.int .i64 po)) (r2 : w.cell? ⟨b, off + 2, none⟩ = some (.int .i64 pl)) (r3 : w.cell? ⟨b, off + 3, none⟩ = some (.int .i64 pn)) (r4 : w.cell? ⟨b, off + 4, none⟩ = some (.bool xr)) (r5 : w.cell? ⟨b, off + 5, none⟩ = some (.bool xl)) (r6 : w.cell? ⟨b, off + 6, none⟩ = some (.bool xg)) (r7 : w.cell? ⟨b, off + 7, none⟩ = some (.int .i64 xc)) (r8 : w.cell? ⟨b, off + 8, none⟩ = some (.int .i64 xb)) (r9 : w.cell? ⟨b, off + 9, none⟩ = some (.int .i64 xn))
    (hlt : b < w.heap.size) 
    (K1 : Hid (∀ w', Below w.heap.size w w' → Calls Try.prog 101 #[.bool xl, .slice (some A) (n - 1) (c - 1), .int .i64 (h : Int)] w' fun e w'' => RdGave w' none e w''))
    :
    Calls Try.prog 74 #[.slice (some ⟨b, off, none⟩) n c, .int .i64 ((h + 1 : Nat) : Int)] w fun e w' => RdGave w none e w' := by
  go_enter Try.func74, Try.ntmps74
  go_wp2_with (go_at_call 53; refine (fit_any ps po pl pn _).mono ?_; rw [hf]; rintro e w' ⟨rfl, rfl⟩)
  go_region_held3 (fun w' => w'.cell? ⟨w.heap.size + 1, 5, none⟩ = some (.bool xl)) (first | assumption | simp [*, go_sem])
    (first | (go_at_call 101; refine (K1.out _ ((bAlloc (bAlloc (Below.refl w.heap.size w) _) _).drew)).mono ?_; rintro e w9 ⟨⟨v1, v2, rfl⟩, hb9⟩; have L9 := bD hb9; obtain ⟨cc9, ff9⟩ := bcell L9; have k9 : w9.cell? ⟨w.heap.size + 1, 5, none⟩ = some (.bool xl) := by rw [cc9 _ _ (by simp)]; simp))
  go_wp2_with fail
  go_ret3
  exact ⟨⟨_, _, rfl⟩, bA2 L9⟩
end Go.Proofs.Ytpifjghhlcjedaa

