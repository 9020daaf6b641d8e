/- The contract of quoinlaw04.act: one step of a script. -/
import Derived.Test.YtmhpeppbhjpkiaaGreatPm20
import Derived.Test.YtmhpeppbhjpkiaaGreatPm14
namespace Go.Proofs.YtmhpeppbhjpkiaaGreat
open Go.RowKit

variable {K : List (Nat × Obj)}

/-- a step of a script -/
structure Sq where
  kind : Int
  a : Int
  b : Int
  p : List UInt8
  es : List Ed
/-- what a step makes of a text; none: it is refused -/
def stT (T : List UInt8) (q : Sq) : Option (List UInt8) :=
  if q.kind = 0 then (if 0 ≤ q.a ∧ q.a ≤ T.length then some (T.take q.a.toNat ++ (q.p ++ T.drop q.a.toNat)) else none)
  else if q.kind = 1 then (if 0 ≤ q.a ∧ q.a ≤ q.b ∧ q.b ≤ T.length then some (T.take q.a.toNat ++ T.drop q.b.toNat) else none)
  else if q.kind = 2 then apT T q.es
  else some T
/-- the bytes that a step may put in; how many edits it is at most -/
def qby (q : Sq) : Nat := q.p.length + nsum q.es
def qed (q : Sq) : Nat := 1 + q.es.length
/-- what a step leaves -/
def StGave (K : List (Nat × Obj)) (w0 w' : World) (sb : Nat) (O A T : List UInt8) (e : Int) (o : Option (List UInt8)) (k n : Nat) : Prop := match o with
  | some T' => ∃ A' e2, Lz K w0 w' sb O A' T' e2 ∧ A'.length ≤ A.length + k ∧ e ≤ e2 ∧ e2 ≤ e + 2 * (n : Int)
  | none => Lz K w0 w' sb O A T e
theorem StGave.wide {w0 w' : World} {sb : Nat} {O A T : List UInt8} {e : Int} {o : Option (List UInt8)} {k n k' n' : Nat} (h : StGave K w0 w' sb O A T e o k n) (hk : k ≤ k') (hn : n ≤ n') : StGave K w0 w' sb O A T e o k' n' := by
  cases o with
  | none => exact h
  | some T' =>
    obtain ⟨A', e2, h1, h2, h3, h4⟩ := h
    exact ⟨A', e2, h1, by omega, h3, by omega⟩
def erZ (o : Option (List UInt8)) (z : Int) : Int := if o.isSome then 0 else z
def erE (o : Option (List UInt8)) (z : Int) : Ending := .returned (.int .i64 (erZ o z))
theorem erE_def (o : Option (List UInt8)) (z : Int) : erE o z = .returned (.int .i64 (erZ o z)) := rfl
theorem apE_er (o : Option (List UInt8)) : apE o = erE o 170 := rfl

theorem Lz.len {w0 W : World} {sb : Nat} {O A T : List UInt8} {e : Int} (h : Lz K w0 W sb O A T e) (x y : Int) :
    Calls Tryz.prog 42 #[.pointer (some ⟨sb, 0, none⟩), .int .i64 x, .int .i64 y] W fun e' w' => e' = .returned (.bool (decide (0 ≤ x ∧ x ≤ y ∧ y ≤ (T.length : Int)))) ∧ Below W.heap.size W w' := by
  obtain ⟨⟨bb, vo, va, t, a, h1, h2, h3, rfl⟩, hb⟩ := h
  have := hasRange_any (some ⟨sb, 0, none⟩) a e t x y W h1.sht h1.tree
  rwa [show t.byt = ((txt O A t.list).length : Int) from by rw [byt_list, ← txt_len h3]] at this
theorem Lz.out {w0 W : World} {sb : Nat} {O A T : List UInt8} {e : Int} (x k : Nat) (h : Lz K w0 W sb O A T e) (hz : T.length ≤ 1048574) (hx : x + k ≤ T.length) (he : 0 ≤ e ∧ e ≤ 4611686018427387904) :
    Calls Tryz.prog 68 #[.pointer (some ⟨sb, 0, none⟩), .int .i64 (x : Int), .int .i64 ((x + k : Nat) : Int)] W fun e' w' => (∃ r, e' = .returned r) ∧ ∃ e2, Lz K w0 w' sb O A (T.take x ++ T.drop (x + k)) e2 ∧ e ≤ e2 ∧ e2 ≤ e + 1 := by
  obtain ⟨⟨bb, vo, va, t, a, h1, h2, h3, h4⟩, hb⟩ := h
  refine (takeOut_st (w := W) x k ⟨⟨va, t, a, h1, h2.1, h3, h4, .inl rfl⟩, Chg.of_below (Below.refl _ _) _ _ _⟩ hz hx he).mono ?_
  rintro e' w' ⟨hr, hl, -⟩
  exact ⟨hr, _, hl.lz hb h1.buf.added h2.2, by split <;> omega, by split <;> omega⟩
theorem Lz.into {w0 W : World} {sb : Nat} {O A T : List UInt8} {e : Int} (x : Nat) (ao : Option Addr) (c : Nat) (l : List UInt8) (h : Lz K w0 W sb O A T e) (hz : T.length + l.length ≤ 1048575) (hA : A.length + l.length ≤ 1048576) (hx : x ≤ T.length) (he : 0 ≤ e ∧ e ≤ 4611686018427387904) (hv : Ab.Rd w0 (.slice ao l.length c) l) :
    Calls Tryz.prog 43 #[.pointer (some ⟨sb, 0, none⟩), .int .i64 (x : Int), .slice ao l.length c] W fun e' w' => (∃ r, e' = .returned r) ∧ ∃ e2, Lz K w0 w' sb O (A ++ l) (T.take x ++ (l ++ T.drop x)) e2 ∧ e ≤ e2 ∧ e2 ≤ e + 1 := by
  obtain ⟨⟨bb, vo, va, t, a, h1, h2, h3, h4⟩, hb⟩ := h
  refine (putIn_st (w := W) x ao c l ⟨⟨va, t, a, h1, h2.1, h3, h4, .inl rfl⟩, Chg.of_below (Below.refl _ _) _ _ _⟩ hz hA hx he (hv.keep hb)).mono ?_
  rintro e' w' ⟨hr, hl, -⟩
  exact ⟨hr, _, hl.lz hb h1.buf.added h2.2, by split <;> omega, by split <;> omega⟩

set_option maxHeartbeats 1000000 in
theorem Insert_lz (w0 W : World) (sb : Nat) (O A T : List UInt8) (e : Int) (off : Int) (ao : Option Addr) (c : Nat) (l : List UInt8) (hL : Hid (Lz K w0 W sb O A T e)) (hz : T.length + l.length ≤ 1048574) (hA : A.length + l.length ≤ 1048576) (he : 0 ≤ e ∧ e ≤ 4611686018427387904) (hv : Hid (Ab.Rd w0 (.slice ao l.length c) l)) :
    Calls Tryz.prog 13 #[.pointer (some ⟨sb, 0, none⟩), .int .i64 off, .slice ao l.length c] W fun e' w' => e' = erE (if 0 ≤ off ∧ off ≤ T.length then some (T.take off.toNat ++ (l ++ T.drop off.toNat)) else none) 30 ∧ StGave K w0 w' sb O A T e (if 0 ≤ off ∧ off ≤ T.length then some (T.take off.toNat ++ (l ++ T.drop off.toNat)) else none) l.length 1 := by
  have HR := hid (hL.out.len off off)
  by_cases h : 0 ≤ off ∧ off ≤ T.length
  · rw [if_pos h]
    rw [decide_eq_true (show 0 ≤ off ∧ off ≤ off ∧ off ≤ (T.length : Int) by omega)] at HR
    obtain ⟨x, rfl⟩ := Int.eq_ofNat_of_zero_le h.1
    rw [Int.toNat_natCast]
    have hx : x ≤ T.length := by omega
    clear h
    generalize hR : some (T.take x ++ (l ++ T.drop x)) = R
    have HRR := hid hR
    clear hR
    go_enter Tryz.func13, Tryz.ntmps13
    go_wp2_with fail
    refine HR.out.mono ?_
    rintro e9 w1 ⟨rfl, hb1⟩
    have L1 := hid (hL.out.keep hb1)
    clear hb1
    go_wp2_with fail
    refine (L1.out.into x ao c l (by omega) hA hx he hv.out).mono ?_
    rintro e9 w2 ⟨⟨r, rfl⟩, e2, hl, k1, k2⟩
    have L2 := hid hl
    clear hl
    go_wp2
    go_ret
    refine ⟨by rw [← HRR.out]; rfl, ?_⟩
    rw [← HRR.out]
    exact ⟨_, e2, L2.out, by rw [List.length_append]; omega, k1, by omega⟩
  · rw [if_neg h]
    rw [decide_eq_false (show ¬ (0 ≤ off ∧ off ≤ off ∧ off ≤ (T.length : Int)) by omega)] at HR
    clear h
    go_enter Tryz.func13, Tryz.ntmps13
    go_wp2_with fail
    refine HR.out.mono ?_
    rintro e9 w1 ⟨rfl, hb1⟩
    have L1 := hid (hL.out.keep hb1)
    clear hb1
    go_wp2
    go_ret
    exact ⟨rfl, L1.out⟩

set_option maxHeartbeats 1000000 in
theorem Delete_lz (w0 W : World) (sb : Nat) (O A T : List UInt8) (e : Int) (x y : Int) (hL : Hid (Lz K w0 W sb O A T e)) (hz : T.length ≤ 1048574) (he : 0 ≤ e ∧ e ≤ 4611686018427387904) :
    Calls Tryz.prog 34 #[.pointer (some ⟨sb, 0, none⟩), .int .i64 x, .int .i64 y] W fun e' w' => e' = erE (if 0 ≤ x ∧ x ≤ y ∧ y ≤ T.length then some (T.take x.toNat ++ T.drop y.toNat) else none) 30 ∧ StGave K w0 w' sb O A T e (if 0 ≤ x ∧ x ≤ y ∧ y ≤ T.length then some (T.take x.toNat ++ T.drop y.toNat) else none) 0 1 := by
  have HR := hid (hL.out.len x y)
  by_cases h : 0 ≤ x ∧ x ≤ y ∧ y ≤ T.length
  · rw [if_pos h]
    rw [decide_eq_true h] at HR
    obtain ⟨x, rfl⟩ := Int.eq_ofNat_of_zero_le h.1
    obtain ⟨k, rfl⟩ : ∃ k : Nat, y = ((x + k : Nat) : Int) := ⟨(y - x).toNat, by omega⟩
    rw [Int.toNat_natCast, Int.toNat_natCast]
    have hx : x + k ≤ T.length := by omega
    clear h
    generalize hR : some (T.take x ++ T.drop (x + k)) = R
    have HRR := hid hR
    have HO := hid (fun W' (hL : Lz K w0 W' sb O A T e) => hL.out x k hz hx he)
    clear hR
    generalize ((x + k : Nat) : Int) = y at *
    go_enter Tryz.func34, Tryz.ntmps34
    go_wp2_with fail
    refine HR.out.mono ?_
    rintro e9 w1 ⟨rfl, hb1⟩
    have L1 := hid (hL.out.keep hb1)
    clear hb1
    go_wp2_with fail
    refine (HO.out _ L1.out).mono ?_
    rintro e9 w2 ⟨⟨r, rfl⟩, e2, hl, k1, k2⟩
    have L2 := hid hl
    clear hl
    go_wp2
    go_ret
    refine ⟨by rw [← HRR.out]; rfl, ?_⟩
    rw [← HRR.out]
    exact ⟨_, e2, L2.out, by omega, k1, by omega⟩
  · rw [if_neg h]
    rw [decide_eq_false h] at HR
    clear h
    go_enter Tryz.func34, Tryz.ntmps34
    go_wp2_with fail
    refine HR.out.mono ?_
    rintro e9 w1 ⟨rfl, hb1⟩
    have L1 := hid (hL.out.keep hb1)
    clear hb1
    go_wp2
    go_ret
    exact ⟨rfl, L1.out⟩

/-- a step's rows in memory -/
structure Sqr (W : World) (q : Sq) (ap : Option Addr) (ae : Option Addr) (cp ce : Nat) : Prop where
  rp : Ab.Rd W (.slice ap q.p.length cp) q.p
  re : Eds W ae q.es

end Go.Proofs.YtmhpeppbhjpkiaaGreat

