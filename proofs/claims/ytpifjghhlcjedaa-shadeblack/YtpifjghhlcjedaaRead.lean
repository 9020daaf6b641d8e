/- Rows read as a tree: plain data; what reading a tree's own rows gives; the contract of balanced. -/
import Derived.Test.YtpifjghhlcjedaaLen
namespace Go.Proofs.Ytpifjghhlcjedaa
open Go.RowKit

/-- the same row? -/
def eqRw (a b : Rw) : Bool := decide (a.p.s = b.p.s) && decide (a.p.o = b.p.o) && decide (a.p.l = b.p.l) && decide (a.p.n = b.p.n) && (a.red == b.red) && (a.left == b.left) && (a.right == b.right) && decide (a.cnt = b.cnt) && decide (a.byt = b.byt) && decide (a.lin = b.lin)
theorem eqRw_iff {a b : Rw} : eqRw a b = true ↔ a = b := by
  obtain ⟨⟨a0, a1, a2, a3⟩, a4, a5, a6, a7, a8, a9⟩ := a
  obtain ⟨⟨b0, b1, b2, b3⟩, b4, b5, b6, b7, b8, b9⟩ := b
  simp [eqRw, and_assoc]

/-- what a node alone is asked -/
def balB (c : Bool) (l r : Tr) : Bool := decide (l.bh = r.bh) && !(c && (l.red || r.red))

/-- what is made of a row and what was read for its kids -/
def closeN (x : Rw) (l r : Tr) (rest : List Rw) : Option (Tr × List Rw) :=
  if eqRw (rowOf x.red l x.p r) x = true ∧ balB x.red l r = true then some ((Tr.mk (some (x.red, l, x.p, r))), rest) else none

def readN : Nat → List Rw → Option (Tr × List Rw)
  | 0, _ => none
  | _ + 1, [] => none
  | h + 1, x :: L => if fitB x.p.l x.p.n = true then
      match (if x.left = true then readN h L else some ((Tr.mk none), L)) with
      | none => none
      | some (l, L1) => match (if x.right = true then readN h L1 else some ((Tr.mk none), L1)) with
        | none => none
        | some (r, L2) => closeN x l r L2
    else none
def readK (h : Nat) (has : Bool) (L : List Rw) : Option (Tr × List Rw) := if has = true then readN h L else some ((Tr.mk none), L)
theorem readN_zero (L : List Rw) : readN 0 L = none := by simp [readN]
theorem readN_nil (h : Nat) : readN h [] = none := by cases h <;> simp [readN]
theorem readN_succ (h : Nat) (x : Rw) (L : List Rw) : readN (h + 1) (x :: L) = if fitB x.p.l x.p.n = true then
      match readK h x.left L with
      | none => none
      | some (l, L1) => match readK h x.right L1 with
        | none => none
        | some (r, L2) => closeN x l r L2
    else none := by unfold readK; conv => lhs; rw [readN]

/-- what was read: the rows are the tree's and the rest; it is red-black, of fit pieces. -/
def Reads (L : List Rw) (t : Tr) (rest : List Rw) : Prop := L = rowsT t ++ rest ∧ t.bal ∧ t.fits

theorem balB_iff {c : Bool} {l r : Tr} : balB c l r = true ↔ l.bh = r.bh ∧ (c = true → l.red = false ∧ r.red = false) := by
  unfold balB
  cases c <;> cases l.red <;> cases r.red <;> simp

theorem readN_ok : ∀ (h : Nat) (L : List Rw) (t : Tr) (rest : List Rw), readN h L = some (t, rest) → Reads L t rest
  | 0, L, t, rest, e => by rw [readN_zero] at e; cases e
  | h + 1, [], t, rest, e => by rw [readN_nil] at e; cases e
  | h + 1, x :: L, t, rest, e => by
    have kid : ∀ (b : Bool) (L : List Rw) (t : Tr) (rest : List Rw), readK h b L = some (t, rest) → Reads L t rest := by
      intro b L t rest e
      unfold readK at e
      split at e
      · exact readN_ok h L t rest e
      · simp at e; obtain ⟨rfl, rfl⟩ := e; exact ⟨by simp [rowsT], trivial, trivial⟩
    rw [readN_succ] at e
    split at e
    · rename_i hf
      cases hl : readK h x.left L with
      | none => rw [hl] at e; simp at e
      | some pl =>
        obtain ⟨l, L1⟩ := pl
        rw [hl] at e; simp only at e
        cases hr : readK h x.right L1 with
        | none => rw [hr] at e; simp at e
        | some pr =>
          obtain ⟨r, L2⟩ := pr
          rw [hr] at e; simp only at e
          unfold closeN at e
          split at e
          · rename_i hc
            simp at e; obtain ⟨rfl, rfl⟩ := e
            obtain ⟨a1, a2, a3⟩ := kid _ _ _ _ hl
            obtain ⟨b1, b2, b3⟩ := kid _ _ _ _ hr
            have hb := balB_iff.1 hc.2
            refine ⟨?_, ⟨a2, b2, hb.1, hb.2⟩, ⟨a3, (fitB_iff x.p.s x.p.o x.p.l x.p.n).1 hf, b3⟩⟩
            simp only [rowsT]
            rw [eqRw_iff.1 hc.1, a1, b1]; simp
          · simp at e
    · simp at e

/-- a tree's own rows are read as that tree, where the height is enough -/
theorem readN_rows : ∀ (t : Tr) (h : Nat) (rest : List Rw), t.has = true → t.ht ≤ h → t.bal → t.fits → readN h (rowsT t ++ rest) = some (t, rest)
  | (Tr.mk none), h, rest, e, _, _, _ => by simp [Tr.has] at e
  | (Tr.mk (some (c, l, p, r))), 0, rest, _, hh, _, _ => by simp [Tr.ht] at hh
  | (Tr.mk (some (c, l, p, r))), h + 1, rest, _, hh, hb, hf => by
    have kid : ∀ (u : Tr) (rest : List Rw), u.ht ≤ h → u.bal → u.fits → (∀ rest, u.has = true → readN h (rowsT u ++ rest) = some (u, rest)) → readK h u.has (rowsT u ++ rest) = some (u, rest) := by
      intro u rest h1 h2 h3 ih
      unfold readK
      cases u using Tr.el with
      | nil => simp [Tr.has, rowsT]
      | node c' l' p' r' => rw [if_pos (show ((Tr.mk (some (c', l', p', r')))).has = true from rfl)]; exact ih rest rfl
    simp only [Tr.ht] at hh
    have kl := kid l (rowsT r ++ rest) (by omega) hb.1 hf.1 (fun rest e => readN_rows l h rest e (by omega) hb.1 hf.1)
    have kr := kid r rest (by omega) hb.2.1 hf.2.2 (fun rest e => readN_rows r h rest e (by omega) hb.2.1 hf.2.2)
    have hfit : fitB p.l p.n = true := (fitB_iff p.s p.o p.l p.n).2 hf.2.1
    simp only [rowsT, List.cons_append, readN_succ]
    have e1 : (rowOf c l p r).p = p := rfl
    have e2 : (rowOf c l p r).left = l.has := rfl
    have e3 : (rowOf c l p r).right = r.has := rfl
    have e4 : (rowOf c l p r).red = c := rfl
    rw [e1, e2, e3, if_pos hfit, List.append_assoc, kl]
    simp only
    rw [kr]
    simp only
    unfold closeN
    rw [if_pos ⟨eqRw_iff.2 (by rw [e4, e1]), by rw [e4]; exact balB_iff.2 ⟨hb.2.2.1, hb.2.2.2⟩⟩, e4, e1]

/-- Check, over plain data -/
def checkB (L : List Rw) : Bool :=
  match L with
  | [] => true
  | L => match readN (2 * Lib.bitLen L.length) L with
    | some (t, []) => !t.red
    | _ => false

theorem bh_low {t : Tr} (h : t.whole) (hz : t.size ≤ 1048576) : t.ht ≤ 2 * Lib.bitLen t.size := by
  have a := Tr.bal_size t h.1
  have b := Tr.bal_ht t h.1
  rw [h.2] at b
  have c := lt_bitLen t.size (by omega)
  have d : t.bh ≤ Lib.bitLen t.size := by
    apply Nat.le_of_not_lt
    intro hlt
    have : 2 ^ (Lib.bitLen t.size + 1) ≤ 2 ^ t.bh := Nat.pow_le_pow_right (by omega) hlt
    rw [Nat.pow_succ] at this
    omega
  simp at b
  omega

theorem checkB_rows {t : Tr} (h : t.whole) (hf : t.fine) : checkB (rowsT t) = true := by
  cases t using Tr.el with
  | nil => rfl
  | node c l p r =>
    have k := readN_rows ((Tr.mk (some (c, l, p, r)))) (2 * Lib.bitLen ((Tr.mk (some (c, l, p, r)))).size) [] rfl (bh_low h hf.2) h.1 hf.1
    rw [List.append_nil] at k
    have z := rowsT_length ((Tr.mk (some (c, l, p, r))))
    unfold checkB
    split
    · rename_i e; rfl
    · rw [z, k]; simp [h.2]

theorem checkB_iff {L : List Rw} (hz : L.length ≤ 1048576) : checkB L = true ↔ ∃ t : Tr, t.whole ∧ t.fits ∧ rowsT t = L := by
  constructor
  · intro h
    unfold checkB at h
    split at h
    · exact ⟨(Tr.mk none), ⟨trivial, rfl⟩, trivial, rfl⟩
    · split at h
      · rename_i t e
        obtain ⟨a, b, c⟩ := readN_ok _ _ _ _ e
        exact ⟨t, ⟨b, by simpa using h⟩, c, by rw [a]; simp⟩
      · cases h
  · rintro ⟨t, h1, h2, rfl⟩
    exact checkB_rows h1 ⟨h2, by rw [← rowsT_length]; exact hz⟩

theorem below_drewN' (w : World) (n : Nat) : Below w.heap.size w (w.drewN n) := ⟨rfl, rfl, rfl, Nat.le_refl _, fun _ _ => rfl⟩
theorem black_eq (t : Tr) (a : Option Addr) (n : Nat) (w : World) (e : t.bh = n) (h : At w t a) : Calls Try.prog 90 #[.pointer a] w fun e w' => e = .returned (.int .i64 (n : Nat)) ∧ w' = w := by
  subst e; exact black_any t a w h
theorem isRed_eq (t : Tr) (a : Option Addr) (c : Bool) (w : World) (e : t.red = c) (h : At w t a) : Calls Try.prog 76 #[.pointer a] w fun e w' => e = .returned (.bool c) ∧ w' = w := by
  subst e; exact isRed_any t a w h
set_option maxHeartbeats 4000000 in
theorem balanced_ne_t (c : Bool) (l : Tr) (s o n k : Int) (r : Tr) (a : Option Addr) (w : World) (h5 : ((l.bh : Int) == (r.bh : Int)) = false) (h1 : l.red = true) (h : Hid (At w ((Tr.mk (some (c, l, ⟨s, o, n, k⟩, r)))) a)) :
    Calls Try.prog 102 #[.pointer a] w fun e w' => e = .returned (.bool false) ∧ ∃ m, w' = w.drewN m := by
  obtain ⟨b, la, ra, rfl, hn, hl, hr⟩ := h.out
  have HL : Hid (At w l la) := hl
  have HR : Hid (At w r ra) := hr
  have c10 := (ncells hn).c10
  have c11 := (ncells hn).c11
  clear hn hl hr
  go_enter Try.func102, Try.ntmps102
  go_wp2_with (first | (go_at_call_of 76 (Value.pointer la); refine (isRed_any l _ _ HL).mono ?_; rw [h1]; rintro e w' ⟨rfl, rfl⟩)
                     | (go_at_call_of 76 (Value.pointer ra); refine (isRed_any r _ _ HR).mono ?_; rintro e w' ⟨rfl, rfl⟩))
  go_quiet (first | (go_at_call_of 90 (Value.pointer la); exact Calls.quiet_of_same (black_eq l la _ _ rfl (HL.out.keep (below_drewN' _ _))))
                  | (go_at_call_of 90 (Value.pointer ra); exact Calls.quiet_of_same (black_any r ra _ (HR.out.keep (below_drewN' _ _))))
                  | (go_at_call 76; exact Calls.quiet_of_same (isRed_eq _ _ c _ rfl (h.out.keep (below_drewN' _ _)))))
  go_wp2
  go_ret
  exact ⟨rfl, _, rfl⟩
set_option maxHeartbeats 4000000 in
theorem balanced_b_t (l : Tr) (s o n k : Int) (r : Tr) (a : Option Addr) (w : World) (h5 : l.bh = r.bh) (h1 : l.red = true) (h : Hid (At w ((Tr.mk (some (false, l, ⟨s, o, n, k⟩, r)))) a)) :
    Calls Try.prog 102 #[.pointer a] w fun e w' => e = .returned (.bool true) ∧ ∃ m, w' = w.drewN m := by
  obtain ⟨b, la, ra, rfl, hn, hl, hr⟩ := h.out
  have HL : Hid (At w l la) := hl
  have HR : Hid (At w r ra) := hr
  have c10 := (ncells hn).c10
  have c11 := (ncells hn).c11
  clear hn hl hr
  go_enter Try.func102, Try.ntmps102
  go_wp2_with (first | (go_at_call_of 76 (Value.pointer la); refine (isRed_any l _ _ HL).mono ?_; rw [h1]; rintro e w' ⟨rfl, rfl⟩)
                     | (go_at_call_of 76 (Value.pointer ra); refine (isRed_any r _ _ HR).mono ?_; rintro e w' ⟨rfl, rfl⟩))
  go_quiet (first | (go_at_call_of 90 (Value.pointer la); exact Calls.quiet_of_same (black_eq l la _ _ h5 (HL.out.keep (below_drewN' _ _))))
                  | (go_at_call_of 90 (Value.pointer ra); exact Calls.quiet_of_same (black_any r ra _ (HR.out.keep (below_drewN' _ _))))
                  | (go_at_call 76; exact Calls.quiet_of_same (isRed_eq _ _ false _ rfl (h.out.keep (below_drewN' _ _)))))
  go_wp2
  go_ret
  exact ⟨rfl, _, rfl⟩
set_option maxHeartbeats 4000000 in
theorem balanced_r_t (l : Tr) (s o n k : Int) (r : Tr) (a : Option Addr) (w : World) (h5 : l.bh = r.bh) (h1 : l.red = true) (h : Hid (At w ((Tr.mk (some (true, l, ⟨s, o, n, k⟩, r)))) a)) :
    Calls Try.prog 102 #[.pointer a] w fun e w' => e = .returned (.bool false) ∧ ∃ m, w' = w.drewN m := by
  obtain ⟨b, la, ra, rfl, hn, hl, hr⟩ := h.out
  have HL : Hid (At w l la) := hl
  have HR : Hid (At w r ra) := hr
  have c10 := (ncells hn).c10
  have c11 := (ncells hn).c11
  clear hn hl hr
  go_enter Try.func102, Try.ntmps102
  go_wp2_with (first | (go_at_call_of 76 (Value.pointer la); refine (isRed_any l _ _ HL).mono ?_; rw [h1]; rintro e w' ⟨rfl, rfl⟩)
                     | (go_at_call_of 76 (Value.pointer ra); refine (isRed_any r _ _ HR).mono ?_; rintro e w' ⟨rfl, rfl⟩))
  go_quiet (first | (go_at_call_of 90 (Value.pointer la); exact Calls.quiet_of_same (black_eq l la _ _ h5 (HL.out.keep (below_drewN' _ _))))
                  | (go_at_call_of 90 (Value.pointer ra); exact Calls.quiet_of_same (black_any r ra _ (HR.out.keep (below_drewN' _ _))))
                  | (go_at_call 76; exact Calls.quiet_of_same (isRed_eq _ _ true _ rfl (h.out.keep (below_drewN' _ _)))))
  go_wp2
  go_ret
  exact ⟨rfl, _, rfl⟩
set_option maxHeartbeats 4000000 in
theorem balanced_ne_ft (c : Bool) (l : Tr) (s o n k : Int) (r : Tr) (a : Option Addr) (w : World) (h5 : ((l.bh : Int) == (r.bh : Int)) = false) (h1 : l.red = false) (h2 : r.red = true) (h : Hid (At w ((Tr.mk (some (c, l, ⟨s, o, n, k⟩, r)))) a)) :
    Calls Try.prog 102 #[.pointer a] w fun e w' => e = .returned (.bool false) ∧ ∃ m, w' = w.drewN m := by
  obtain ⟨b, la, ra, rfl, hn, hl, hr⟩ := h.out
  have HL : Hid (At w l la) := hl
  have HR : Hid (At w r ra) := hr
  have c10 := (ncells hn).c10
  have c11 := (ncells hn).c11
  clear hn hl hr
  go_enter Try.func102, Try.ntmps102
  go_wp2_with (first | (go_at_call_of 76 (Value.pointer la); refine (isRed_any l _ _ HL).mono ?_; rw [h1]; rintro e w' ⟨rfl, rfl⟩)
                     | (go_at_call_of 76 (Value.pointer ra); refine (isRed_any r _ _ HR).mono ?_; rw [h2]; rintro e w' ⟨rfl, rfl⟩))
  go_quiet (first | (go_at_call_of 90 (Value.pointer la); exact Calls.quiet_of_same (black_eq l la _ _ rfl (HL.out.keep (below_drewN' _ _))))
                  | (go_at_call_of 90 (Value.pointer ra); exact Calls.quiet_of_same (black_any r ra _ (HR.out.keep (below_drewN' _ _))))
                  | (go_at_call 76; exact Calls.quiet_of_same (isRed_eq _ _ c _ rfl (h.out.keep (below_drewN' _ _)))))
  go_wp2
  go_ret
  exact ⟨rfl, _, rfl⟩
set_option maxHeartbeats 4000000 in
theorem balanced_b_ft (l : Tr) (s o n k : Int) (r : Tr) (a : Option Addr) (w : World) (h5 : l.bh = r.bh) (h1 : l.red = false) (h2 : r.red = true) (h : Hid (At w ((Tr.mk (some (false, l, ⟨s, o, n, k⟩, r)))) a)) :
    Calls Try.prog 102 #[.pointer a] w fun e w' => e = .returned (.bool true) ∧ ∃ m, w' = w.drewN m := by
  obtain ⟨b, la, ra, rfl, hn, hl, hr⟩ := h.out
  have HL : Hid (At w l la) := hl
  have HR : Hid (At w r ra) := hr
  have c10 := (ncells hn).c10
  have c11 := (ncells hn).c11
  clear hn hl hr
  go_enter Try.func102, Try.ntmps102
  go_wp2_with (first | (go_at_call_of 76 (Value.pointer la); refine (isRed_any l _ _ HL).mono ?_; rw [h1]; rintro e w' ⟨rfl, rfl⟩)
                     | (go_at_call_of 76 (Value.pointer ra); refine (isRed_any r _ _ HR).mono ?_; rw [h2]; rintro e w' ⟨rfl, rfl⟩))
  go_quiet (first | (go_at_call_of 90 (Value.pointer la); exact Calls.quiet_of_same (black_eq l la _ _ h5 (HL.out.keep (below_drewN' _ _))))
                  | (go_at_call_of 90 (Value.pointer ra); exact Calls.quiet_of_same (black_any r ra _ (HR.out.keep (below_drewN' _ _))))
                  | (go_at_call 76; exact Calls.quiet_of_same (isRed_eq _ _ false _ rfl (h.out.keep (below_drewN' _ _)))))
  go_wp2
  go_ret
  exact ⟨rfl, _, rfl⟩
set_option maxHeartbeats 4000000 in
theorem balanced_r_ft (l : Tr) (s o n k : Int) (r : Tr) (a : Option Addr) (w : World) (h5 : l.bh = r.bh) (h1 : l.red = false) (h2 : r.red = true) (h : Hid (At w ((Tr.mk (some (true, l, ⟨s, o, n, k⟩, r)))) a)) :
    Calls Try.prog 102 #[.pointer a] w fun e w' => e = .returned (.bool false) ∧ ∃ m, w' = w.drewN m := by
  obtain ⟨b, la, ra, rfl, hn, hl, hr⟩ := h.out
  have HL : Hid (At w l la) := hl
  have HR : Hid (At w r ra) := hr
  have c10 := (ncells hn).c10
  have c11 := (ncells hn).c11
  clear hn hl hr
  go_enter Try.func102, Try.ntmps102
  go_wp2_with (first | (go_at_call_of 76 (Value.pointer la); refine (isRed_any l _ _ HL).mono ?_; rw [h1]; rintro e w' ⟨rfl, rfl⟩)
                     | (go_at_call_of 76 (Value.pointer ra); refine (isRed_any r _ _ HR).mono ?_; rw [h2]; rintro e w' ⟨rfl, rfl⟩))
  go_quiet (first | (go_at_call_of 90 (Value.pointer la); exact Calls.quiet_of_same (black_eq l la _ _ h5 (HL.out.keep (below_drewN' _ _))))
                  | (go_at_call_of 90 (Value.pointer ra); exact Calls.quiet_of_same (black_any r ra _ (HR.out.keep (below_drewN' _ _))))
                  | (go_at_call 76; exact Calls.quiet_of_same (isRed_eq _ _ true _ rfl (h.out.keep (below_drewN' _ _)))))
  go_wp2
  go_ret
  exact ⟨rfl, _, rfl⟩
set_option maxHeartbeats 4000000 in
theorem balanced_ne_ff (c : Bool) (l : Tr) (s o n k : Int) (r : Tr) (a : Option Addr) (w : World) (h5 : ((l.bh : Int) == (r.bh : Int)) = false) (h1 : l.red = false) (h2 : r.red = false) (h : Hid (At w ((Tr.mk (some (c, l, ⟨s, o, n, k⟩, r)))) a)) :
    Calls Try.prog 102 #[.pointer a] w fun e w' => e = .returned (.bool false) ∧ ∃ m, w' = w.drewN m := by
  obtain ⟨b, la, ra, rfl, hn, hl, hr⟩ := h.out
  have HL : Hid (At w l la) := hl
  have HR : Hid (At w r ra) := hr
  have c10 := (ncells hn).c10
  have c11 := (ncells hn).c11
  clear hn hl hr
  go_enter Try.func102, Try.ntmps102
  go_wp2_with (first | (go_at_call_of 76 (Value.pointer la); refine (isRed_any l _ _ HL).mono ?_; rw [h1]; rintro e w' ⟨rfl, rfl⟩)
                     | (go_at_call_of 76 (Value.pointer ra); refine (isRed_any r _ _ HR).mono ?_; rw [h2]; rintro e w' ⟨rfl, rfl⟩))
  go_quiet (first | (go_at_call_of 90 (Value.pointer la); exact Calls.quiet_of_same (black_eq l la _ _ rfl (HL.out.keep (below_drewN' _ _))))
                  | (go_at_call_of 90 (Value.pointer ra); exact Calls.quiet_of_same (black_any r ra _ (HR.out.keep (below_drewN' _ _))))
                  | (go_at_call 76; exact Calls.quiet_of_same (isRed_eq _ _ c _ rfl (h.out.keep (below_drewN' _ _)))))
  go_wp2
  go_ret
  exact ⟨rfl, _, rfl⟩
set_option maxHeartbeats 4000000 in
theorem balanced_b_ff (l : Tr) (s o n k : Int) (r : Tr) (a : Option Addr) (w : World) (h5 : l.bh = r.bh) (h1 : l.red = false) (h2 : r.red = false) (h : Hid (At w ((Tr.mk (some (false, l, ⟨s, o, n, k⟩, r)))) a)) :
    Calls Try.prog 102 #[.pointer a] w fun e w' => e = .returned (.bool true) ∧ ∃ m, w' = w.drewN m := by
  obtain ⟨b, la, ra, rfl, hn, hl, hr⟩ := h.out
  have HL : Hid (At w l la) := hl
  have HR : Hid (At w r ra) := hr
  have c10 := (ncells hn).c10
  have c11 := (ncells hn).c11
  clear hn hl hr
  go_enter Try.func102, Try.ntmps102
  go_wp2_with (first | (go_at_call_of 76 (Value.pointer la); refine (isRed_any l _ _ HL).mono ?_; rw [h1]; rintro e w' ⟨rfl, rfl⟩)
                     | (go_at_call_of 76 (Value.pointer ra); refine (isRed_any r _ _ HR).mono ?_; rw [h2]; rintro e w' ⟨rfl, rfl⟩))
  go_quiet (first | (go_at_call_of 90 (Value.pointer la); exact Calls.quiet_of_same (black_eq l la _ _ h5 (HL.out.keep (below_drewN' _ _))))
                  | (go_at_call_of 90 (Value.pointer ra); exact Calls.quiet_of_same (black_any r ra _ (HR.out.keep (below_drewN' _ _))))
                  | (go_at_call 76; exact Calls.quiet_of_same (isRed_eq _ _ false _ rfl (h.out.keep (below_drewN' _ _)))))
  go_wp2
  go_ret
  exact ⟨rfl, _, rfl⟩
set_option maxHeartbeats 4000000 in
theorem balanced_r_ff (l : Tr) (s o n k : Int) (r : Tr) (a : Option Addr) (w : World) (h5 : l.bh = r.bh) (h1 : l.red = false) (h2 : r.red = false) (h : Hid (At w ((Tr.mk (some (true, l, ⟨s, o, n, k⟩, r)))) a)) :
    Calls Try.prog 102 #[.pointer a] w fun e w' => e = .returned (.bool true) ∧ ∃ m, w' = w.drewN m := by
  obtain ⟨b, la, ra, rfl, hn, hl, hr⟩ := h.out
  have HL : Hid (At w l la) := hl
  have HR : Hid (At w r ra) := hr
  have c10 := (ncells hn).c10
  have c11 := (ncells hn).c11
  clear hn hl hr
  go_enter Try.func102, Try.ntmps102
  go_wp2_with (first | (go_at_call_of 76 (Value.pointer la); refine (isRed_any l _ _ HL).mono ?_; rw [h1]; rintro e w' ⟨rfl, rfl⟩)
                     | (go_at_call_of 76 (Value.pointer ra); refine (isRed_any r _ _ HR).mono ?_; rw [h2]; rintro e w' ⟨rfl, rfl⟩))
  go_quiet (first | (go_at_call_of 90 (Value.pointer la); exact Calls.quiet_of_same (black_eq l la _ _ h5 (HL.out.keep (below_drewN' _ _))))
                  | (go_at_call_of 90 (Value.pointer ra); exact Calls.quiet_of_same (black_any r ra _ (HR.out.keep (below_drewN' _ _))))
                  | (go_at_call 76; exact Calls.quiet_of_same (isRed_eq _ _ true _ rfl (h.out.keep (below_drewN' _ _)))))
  go_wp2
  go_ret
  exact ⟨rfl, _, rfl⟩
theorem balanced_any (c : Bool) (l : Tr) (s o n k : Int) (r : Tr) (a : Option Addr) (w : World) (h : At w ((Tr.mk (some (c, l, ⟨s, o, n, k⟩, r)))) a) :
    Calls Try.prog 102 #[.pointer a] w fun e w' => e = .returned (.bool (balB c l r)) ∧ ∃ m, w' = w.drewN m := by
  by_cases h3 : l.bh = r.bh
  · cases h1 : l.red with
    | true =>
      cases c with
      | false => rw [show balB false l r = true from by simp [balB, h3]]; exact balanced_b_t l s o n k r a w h3 h1 h
      | true => rw [show balB true l r = false from by simp [balB, h1]]; exact balanced_r_t l s o n k r a w h3 h1 h
    | false =>
      cases h2 : r.red with
      | true =>
        cases c with
        | false => rw [show balB false l r = true from by simp [balB, h3]]; exact balanced_b_ft l s o n k r a w h3 h1 h2 h
        | true => rw [show balB true l r = false from by simp [balB, h2]]; exact balanced_r_ft l s o n k r a w h3 h1 h2 h
      | false =>
        cases c with
        | false => rw [show balB false l r = true from by simp [balB, h3]]; exact balanced_b_ff l s o n k r a w h3 h1 h2 h
        | true => rw [show balB true l r = true from by simp [balB, h1, h2, h3]]; exact balanced_r_ff l s o n k r a w h3 h1 h2 h
  · rw [show balB c l r = false from by simp [balB, h3]]
    cases h1 : l.red with
    | true => exact balanced_ne_t c l s o n k r a w (ne_bh h3) h1 h
    | false =>
      cases h2 : r.red with
      | true => exact balanced_ne_ft c l s o n k r a w (ne_bh h3) h1 h2 h
      | false => exact balanced_ne_ff c l s o n k r a w (ne_bh h3) h1 h2 h
end Go.Proofs.Ytpifjghhlcjedaa
