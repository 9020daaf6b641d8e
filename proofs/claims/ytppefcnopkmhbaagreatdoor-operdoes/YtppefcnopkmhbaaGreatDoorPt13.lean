/- Op3, Ech -/
import Derived.Test.YtppefcnopkmhbaaGreatDoorPt12
import Derived.Laws.EntriesVeiled
namespace Go.Proofs.YtppefcnopkmhbaaGreatDoor
open Go.RowKit

set_option maxRecDepth 8000
/-- is the range of these lines this one -/
def isW (l : List UInt8) (a b F T : Int) (L D : Bool) : Bool := ((wh l a b).E == 0) && (((wh l a b).F == F) && (((wh l a b).T == T) && (((wh l a b).L == L) && ((wh l a b).D == D))))
set_option maxHeartbeats 2000000 in
theorem isWhole_any (ao : Option Addr) (n c : Nat) (a b F T : Int) (L D : Bool) (l : List UInt8) (w : World) (ha : a ≤ 9223372036854775807) (hb : b ≤ 9223372036854775807) (HT : Hid (Tx w ao n c l)) :
    Calls Tryz.prog 78 #[.slice ao n c, .int .i64 a, .int .i64 b, .agg #[.int .i64 F, .int .i64 T, .bool L, .bool D]] w fun e w' => e = .returned (.bool (isW l a b F T L D)) ∧ Below w.heap.size w w' := by
  obtain ⟨W1, hW1⟩ : ∃ x, w.alloc (.cells #[.int .i64 F, .int .i64 T, .bool L, .bool D] 28) = x := ⟨_, rfl⟩
  have K1 : Hid (Blk W1 w.heap.size 28 #[.int .i64 F, .int .i64 T, .bool L, .bool D]) := by unfold Hid; rw [← hW1]; exact Blk.new w 28 _
  have L1 : Hid (Below w.heap.size w W1) := by unfold Hid; rw [← hW1]; exact bAlloc (Below.refl _ _) _
  have C1 := whole_any ao n c a b l W1 ha hb (HT.out.keep L1.out)
  unfold isW
  generalize wh l a b = r at *
  obtain ⟨rF, rT, rL, rD, rE⟩ := r
  unfold rt at C1
  dsimp only at C1 ⊢
  have C := Hid.mk' C1
  obtain ⟨B, hB⟩ : ∃ b, w.heap.size = b := ⟨_, rfl⟩
  have HB := Hid.mk' hB
  rw [hB] at K1
  clear C1 HT
  go_enter Tryz.func78, Tryz.ntmps78
  go_upto_region 1 with fail
  clear hW1 hB
  go_wp2_with fail
  refine C.out.mono ?_
  rintro e w1 ⟨rfl, hb1⟩
  have K2 := Hid.mk' (K1.out.keep hb1)
  have L2 := Hid.mk' (bT L1.out hb1)
  clear hb1 C K1 L1
  dsimp only
  obtain ⟨W3, hW3⟩ : ∃ x, w1.alloc (.cells #[.int .i64 rF, .int .i64 rT, .bool rL, .bool rD] 28) = x := ⟨_, rfl⟩
  obtain ⟨Q, hQ⟩ : ∃ q, w1.heap.size = q := ⟨_, rfl⟩
  have hb3 : Below w1.heap.size w1 W3 := by rw [← hW3]; exact bAlloc (Below.refl _ _) _
  have K3 := Hid.mk' (K2.out.keep hb3)
  have J3 : Hid (Blk W3 Q 28 #[.int .i64 rF, .int .i64 rT, .bool rL, .bool rD]) := by unfold Hid; rw [← hW3, ← hQ]; exact Blk.new w1 28 _
  have L3 := Hid.mk' (bT L2.out hb3)
  clear hb3 K2 L2
  go_upto_region 2 with fail
  clear hW3 hQ
  have k0 : W3.cell? ⟨B, 0, none⟩ = some (.int .i64 F) := K3.out.cell rfl
  have k1 : W3.cell? ⟨B, 1, none⟩ = some (.int .i64 T) := K3.out.cell rfl
  have k2 : W3.cell? ⟨B, 2, none⟩ = some (.bool L) := K3.out.cell rfl
  have k3 : W3.cell? ⟨B, 3, none⟩ = some (.bool D) := K3.out.cell rfl
  have j0 : W3.cell? ⟨Q, 0, none⟩ = some (.int .i64 rF) := J3.out.cell rfl
  have j1 : W3.cell? ⟨Q, 1, none⟩ = some (.int .i64 rT) := J3.out.cell rfl
  have j2 : W3.cell? ⟨Q, 2, none⟩ = some (.bool rL) := J3.out.cell rfl
  have j3 : W3.cell? ⟨Q, 3, none⟩ = some (.bool rD) := J3.out.cell rfl
  by_cases hE : rE = 0
  · subst hE
    go_wp2_with fail
    all_goals
      go_ret
      exact ⟨by simp_all, L3.out⟩
  · have hE' : (rE == 0) = false := by simp; exact hE
    go_wp2_with fail
    go_ret
    exact ⟨by rw [hE']; rfl, L3.out⟩

/-- a range's lines; false: it isn't right -/
def lnO (l : List UInt8) (at' : Nat) (F T : Int) (L D : Bool) : Int × Int × Bool :=
  if F < 0 ∨ T < F ∨ (l.length : Int) < T then (0, 0, false)
  else if L = false then ((nl (l.take F.toNat) : Int), (nl (l.take (max F (T - 1)).toNat) : Int), true)
  else
    let a : Int := (nl (l.take F.toNat) : Int) + if D then 1 else 0
    let b : Int := (nl (l.take T.toNat) : Int)
    if isW l a (b - 1) F T L D && (!isW l a b F T L D || decide ((nl (l.take at') : Int) < b)) then (a, b - 1, true) else (a, b, isW l a b F T L D)
def lnV (x : Int × Int × Bool) : Value := .tuple #[.int .i64 x.1, .int .i64 x.2.1, .bool x.2.2]
theorem lof_at' {ao : Option Addr} {n c k : Nat} {l : List UInt8} {w : World} (hk : k ≤ n) (HT : Hid (Tx w ao n c l)) :
    Calls Tryz.prog 77 #[.slice ao n c, .int .i64 (k : Int)] w fun e w' => e = .returned (.tuple #[.int .i64 (nl (l.take k) : Int), .int .i64 0]) ∧ Below w.heap.size w w' := by
  have h := lof_any ao n c (k : Int) l w HT
  have e : aOf l (k : Int) = ((nl (l.take k) : Int), 0) := by
    unfold aOf ans plB
    rw [decide_eq_true (show (0 : Int) ≤ (k : Int) ∧ (k : Int) ≤ (l.length : Int) by have := HT.out.len; omega), if_pos rfl]
    rfl
  rw [e] at h
  exact h
set_option maxHeartbeats 2000000 in
theorem linesOf_no (ao : Option Addr) (n c : Nat) (at' : Int) (F T : Int) (L D : Bool) (w : World) (h : F < 0 ∨ T < F ∨ (n : Int) < T) :
    Calls Tryz.prog 38 #[.slice ao n c, .int .i64 at', .agg #[.int .i64 F, .int .i64 T, .bool L, .bool D]] w fun e w' => e = .returned (lnV (0, 0, false)) ∧ Below w.heap.size w w' := by
  by_cases h1 : F < 0
  · go_enter Tryz.func38, Tryz.ntmps38
    go_wp2_with fail
    exact bodyPost_ret (v := .tuple #[.int .i64 0, .int .i64 0, .bool false]) (by simp [results, Tryz.results38]) rfl ⟨rfl, bAlloc (Below.refl _ _) _⟩
  · by_cases h2 : T < F
    · go_enter Tryz.func38, Tryz.ntmps38
      go_wp2_with fail
      exact bodyPost_ret (v := .tuple #[.int .i64 0, .int .i64 0, .bool false]) (by simp [results, Tryz.results38]) rfl ⟨rfl, bAlloc (Below.refl _ _) _⟩
    · have h3 : (n : Int) < T := by omega
      go_enter Tryz.func38, Tryz.ntmps38
      go_wp2_with fail
      exact bodyPost_ret (v := .tuple #[.int .i64 0, .int .i64 0, .bool false]) (by simp [results, Tryz.results38]) rfl ⟨rfl, bAlloc (Below.refl _ _) _⟩

theorem wrapA {x : Int} (h1 : -9223372036854775808 ≤ x) (h2 : x ≤ 9223372036854775807) : IntKind.i64.wrap x = x := by rw [IntKind.wrap_i64]; omega
theorem wrapB {x : Int} (h1 : -9223372036854775808 ≤ x) (h2 : x ≤ 9223372036854775807) : wrap64 x = x := by unfold wrap64; omega
theorem ite_lnV (p q : Bool) (x : Prop) [Decidable x] (a b : Int) : (if (p && (!q || decide x)) = true then (a, b - 1, true) else (a, b, q)) = if p = true ∧ (q = false ∨ x) then (a, b - 1, true) else (a, b, q) := by
  cases p <;> cases q <;> by_cases h : x <;> simp [h]
set_option maxHeartbeats 4000000 in
theorem linesOf_L (ao : Option Addr) (n c k f t : Nat) (D : Bool) (l : List UInt8) (w : World) (HT : Hid (Tx w ao n c l)) (hk : k ≤ n) (hft : f ≤ t) (ht : t ≤ n) :
    Calls Tryz.prog 38 #[.slice ao n c, .int .i64 (k : Int), .agg #[.int .i64 (f : Int), .int .i64 (t : Int), .bool true, .bool D]] w fun e w' => e = .returned (lnV (lnO l k (f : Int) (t : Int) true D)) ∧ Below w.heap.size w w' := by
  have hlen := HT.out.len
  have hbig := HT.out.big
  obtain ⟨W1, hW1⟩ : ∃ x, w.alloc (.cells #[.int .i64 (f : Int), .int .i64 (t : Int), .bool true, .bool D] 28) = x := ⟨_, rfl⟩
  have K1 : Hid (Blk W1 w.heap.size 28 #[.int .i64 (f : Int), .int .i64 (t : Int), .bool true, .bool D]) := by unfold Hid; rw [← hW1]; exact Blk.new w 28 _
  have L1 : Hid (Below w.heap.size w W1) := by unfold Hid; rw [← hW1]; exact bAlloc (Below.refl _ _) _
  have HT1 := Hid.mk' (HT.out.keep L1.out)
  have COf : Hid (∀ j, j ≤ n → ∀ W, Below W1.heap.size W1 W → Calls Tryz.prog 77 #[.slice ao n c, .int .i64 (j : Int)] W fun e w' => e = .returned (.tuple #[.int .i64 (nl (l.take j) : Int), .int .i64 0]) ∧ Below W.heap.size W w') := fun j hj W hW => lof_at' hj (HT1.out.keep hW)
  have CW : Hid (∀ a b : Int, a ≤ 9223372036854775807 → b ≤ 9223372036854775807 → ∀ W, Below W1.heap.size W1 W → Calls Tryz.prog 78 #[.slice ao n c, .int .i64 a, .int .i64 b, .agg #[.int .i64 (f : Int), .int .i64 (t : Int), .bool true, .bool D]] W fun e w' => e = .returned (.bool (isW l a b (f : Int) (t : Int) true D)) ∧ Below W.heap.size W w') := fun a b ha hb W hW => isWhole_any ao n c a b _ _ _ _ l W ha hb (HT1.out.keep hW)
  have hx : lnO l k (f : Int) (t : Int) true D = if (isW l ((nl (l.take f) : Int) + if D then 1 else 0) ((nl (l.take t) : Int) - 1) (f : Int) (t : Int) true D && (!isW l ((nl (l.take f) : Int) + if D then 1 else 0) ((nl (l.take t) : Int)) (f : Int) (t : Int) true D || decide ((nl (l.take k) : Int) < (nl (l.take t) : Int)))) = true then ((nl (l.take f) : Int) + (if D then 1 else 0), (nl (l.take t) : Int) - 1, true) else ((nl (l.take f) : Int) + (if D then 1 else 0), (nl (l.take t) : Int), isW l ((nl (l.take f) : Int) + if D then 1 else 0) ((nl (l.take t) : Int)) (f : Int) (t : Int) true D) := by
    unfold lnO
    rw [if_neg (by omega), if_neg (by decide)]
    simp only [Int.toNat_natCast]
  rw [hx, ite_lnV]
  have hn1 : nl (l.take f) ≤ n := by have := nl_take_le l f; have := nl_le l; omega
  have hn2 : nl (l.take t) ≤ n := by have := nl_take_le l t; have := nl_le l; omega
  have C1 := COf.out f (by omega) W1 (Below.refl _ _)
  have C2 := Hid.mk' (COf.out t ht)
  have C3 := Hid.mk' (COf.out k hk)
  generalize nl (l.take f) = x at *
  generalize nl (l.take t) = y at *
  generalize nl (l.take k) = z at *
  obtain ⟨a, ha⟩ : ∃ a : Nat, (x : Int) + (if D then 1 else 0) = (a : Int) := ⟨x + (if D then 1 else 0), by cases D <;> simp⟩
  have ha1 : (a : Int) ≤ n + 1 := by rw [← ha]; cases D <;> simp <;> omega
  rw [ha]
  have C4 := Hid.mk' (CW.out (a : Int) (y : Int) (by omega) (by omega))
  have C5 := Hid.mk' (CW.out (a : Int) ((y : Int) - 1) (by omega) (by omega))
  generalize isW l (a : Int) (y : Int) (f : Int) (t : Int) true D = q at *
  generalize isW l (a : Int) ((y : Int) - 1) (f : Int) (t : Int) true D = p at *
  obtain ⟨B, hB⟩ : ∃ b, w.heap.size = b := ⟨_, rfl⟩
  have HB := Hid.mk' hB
  rw [hB] at K1
  have h1 : ¬ ((f : Int) < 0) := by omega
  have h2 : ¬ ((t : Int) < (f : Int)) := by omega
  have h3 : ¬ ((n : Int) < (t : Int)) := by omega
  have hwy : wrap64 ((y : Int) - 1) = (y : Int) - 1 := wrapB (by omega) (by omega)
  have hwy' : IntKind.i64.wrap ((y : Int) - 1) = (y : Int) - 1 := wrapA (by omega) (by omega)
  have HA := Hid.mk' ha
  have C1' := Hid.mk' C1
  obtain ⟨u, hu⟩ : ∃ u, (if p = true ∧ (q = false ∨ (z : Int) < (y : Int)) then ((a : Int), (y : Int) - 1, true) else ((a : Int), (y : Int), q)) = u := ⟨_, rfl⟩
  rw [hu]
  have HU := Hid.mk' hu
  clear hu
  clear hx C1 COf CW HT HT1 hft ht hk hlen ha
  go_enter Tryz.func38, Tryz.ntmps38
  go_upto_region 1 with fail
  clear hW1 hB
  have k0 : W1.cell? ⟨B, 0, none⟩ = some (.int .i64 (f : Int)) := K1.out.cell rfl
  have k1 : W1.cell? ⟨B, 1, none⟩ = some (.int .i64 (t : Int)) := K1.out.cell rfl
  have k2 : W1.cell? ⟨B, 2, none⟩ = some (.bool true) := K1.out.cell rfl
  have k3 : W1.cell? ⟨B, 3, none⟩ = some (.bool D) := K1.out.cell rfl
  go_wp2_with fail
  refine C1'.out.mono ?_
  rintro e w2 ⟨rfl, hb2⟩
  have B2 := Hid.mk' hb2
  have K2 := Hid.mk' (K1.out.keep hb2)
  clear hb2 C1' k0 k1 k2 k3
  have k0 : w2.cell? ⟨B, 0, none⟩ = some (.int .i64 (f : Int)) := K2.out.cell rfl
  have k1 : w2.cell? ⟨B, 1, none⟩ = some (.int .i64 (t : Int)) := K2.out.cell rfl
  have k2 : w2.cell? ⟨B, 2, none⟩ = some (.bool true) := K2.out.cell rfl
  have k3 : w2.cell? ⟨B, 3, none⟩ = some (.bool D) := K2.out.cell rfl
  dsimp only
  go_upto_if 53 with fail
  go_cut [6] from 54 to 55 (fun x6 wx => x6 = .int .i64 (a : Int) ∧ wx = w2)
  case first =>
    cases D with
    | true =>
      have ha2 : (x : Int) + 1 = (a : Int) := HA.out
      have hwa : IntKind.i64.wrap (a : Int) = (a : Int) := wrapA (by omega) (by omega)
      have hwa' : wrap64 (a : Int) = (a : Int) := wrapB (by omega) (by omega)
      go_wp2_with fail
      go_meet
      exact ⟨rfl, rfl⟩
    | false =>
      have ha2 : x = a := by have h : (x : Int) + 0 = (a : Int) := HA.out; omega
      subst ha2
      go_wp2_with fail
      go_meet
      exact ⟨rfl, rfl⟩
  case rest =>
    obtain ⟨rfl, rfl⟩ := hcut
    go_wp2_with fail
    refine (C2.out _ B2.out).mono ?_
    rintro e w3 ⟨rfl, hb3⟩
    have B3 := Hid.mk' (bT B2.out hb3)
    have K3 := Hid.mk' (K2.out.keep hb3)
    clear hb3 C2 K2 k0 k1 k2 k3 B2
    dsimp only
    go_wp2_with fail
    refine (C3.out w3 B3.out).mono ?_
    rintro e w4 ⟨rfl, hb4⟩
    have B4 := Hid.mk' (bT B3.out hb4)
    have K4 := Hid.mk' (K3.out.keep hb4)
    clear hb4 C3 K3 B3
    have k0 : w4.cell? ⟨B, 0, none⟩ = some (.int .i64 (f : Int)) := K4.out.cell rfl
    have k1 : w4.cell? ⟨B, 1, none⟩ = some (.int .i64 (t : Int)) := K4.out.cell rfl
    have k2 : w4.cell? ⟨B, 2, none⟩ = some (.bool true) := K4.out.cell rfl
    have k3 : w4.cell? ⟨B, 3, none⟩ = some (.bool D) := K4.out.cell rfl
    dsimp only
    go_wp2_with fail
    refine (C4.out w4 B4.out).mono ?_
    rintro e w5 ⟨rfl, hb5⟩
    have B5 := Hid.mk' (bT B4.out hb5)
    have K5 := Hid.mk' (K4.out.keep hb5)
    clear hb5 C4 K4 B4 k0 k1 k2 k3
    have k0 : w5.cell? ⟨B, 0, none⟩ = some (.int .i64 (f : Int)) := K5.out.cell rfl
    have k1 : w5.cell? ⟨B, 1, none⟩ = some (.int .i64 (t : Int)) := K5.out.cell rfl
    have k2 : w5.cell? ⟨B, 2, none⟩ = some (.bool true) := K5.out.cell rfl
    have k3 : w5.cell? ⟨B, 3, none⟩ = some (.bool D) := K5.out.cell rfl
    dsimp only
    go_wp2_with fail
    refine (C5.out w5 B5.out).mono ?_
    rintro e w6 ⟨rfl, hb6⟩
    have B6 := Hid.mk' (bT L1.out (bT B5.out hb6))
    clear hb6 C5 K5 B5 k0 k1 k2 k3
    dsimp only
    cases p with
    | false =>
      have e := HU.out
      rw [if_neg (by simp)] at e
      subst e
      go_wp2_with fail
      exact bodyPost_ret (v := .tuple #[.int .i64 (a : Int), .int .i64 (y : Int), .bool q]) (by simp [results, Tryz.results38]) rfl ⟨rfl, B6.out⟩
    | true =>
      cases q with
      | false =>
        have e := HU.out
        rw [if_pos ⟨rfl, .inl rfl⟩] at e
        subst e
        go_wp2_with fail
        exact bodyPost_ret (v := .tuple #[.int .i64 (a : Int), .int .i64 ((y : Int) - 1), .bool true]) (by simp [results, Tryz.results38]) rfl ⟨rfl, B6.out⟩
      | true =>
        by_cases hzy : (z : Int) < (y : Int)
        · skip
          have e := HU.out
          rw [if_pos ⟨rfl, .inr hzy⟩] at e
          subst e
          go_wp2_with fail
          exact bodyPost_ret (v := .tuple #[.int .i64 (a : Int), .int .i64 ((y : Int) - 1), .bool true]) (by simp [results, Tryz.results38]) rfl ⟨rfl, B6.out⟩
        · skip
          have e := HU.out
          rw [if_neg (by rintro ⟨_, h | h⟩; cases h; exact hzy h)] at e
          subst e
          go_wp2_with fail
          exact bodyPost_ret (v := .tuple #[.int .i64 (a : Int), .int .i64 (y : Int), .bool true]) (by simp [results, Tryz.results38]) rfl ⟨rfl, B6.out⟩
set_option maxHeartbeats 4000000 in
theorem linesOf_B (ao : Option Addr) (n c k f t : Nat) (D : Bool) (l : List UInt8) (w : World) (HT : Hid (Tx w ao n c l)) (hft : f ≤ t) (ht : t ≤ n) :
    Calls Tryz.prog 38 #[.slice ao n c, .int .i64 (k : Int), .agg #[.int .i64 (f : Int), .int .i64 (t : Int), .bool false, .bool D]] w fun e w' => e = .returned (lnV (lnO l k (f : Int) (t : Int) false D)) ∧ Below w.heap.size w w' := by
  have hlen := HT.out.len
  have hbig := HT.out.big
  obtain ⟨W1, hW1⟩ : ∃ x, w.alloc (.cells #[.int .i64 (f : Int), .int .i64 (t : Int), .bool false, .bool D] 28) = x := ⟨_, rfl⟩
  have K1 : Hid (Blk W1 w.heap.size 28 #[.int .i64 (f : Int), .int .i64 (t : Int), .bool false, .bool D]) := by unfold Hid; rw [← hW1]; exact Blk.new w 28 _
  have L1 : Hid (Below w.heap.size w W1) := by unfold Hid; rw [← hW1]; exact bAlloc (Below.refl _ _) _
  have HT1 := Hid.mk' (HT.out.keep L1.out)
  have COf : Hid (∀ j, j ≤ n → ∀ W, Below W1.heap.size W1 W → Calls Tryz.prog 77 #[.slice ao n c, .int .i64 (j : Int)] W fun e w' => e = .returned (.tuple #[.int .i64 (nl (l.take j) : Int), .int .i64 0]) ∧ Below W.heap.size W w') := fun j hj W hW => lof_at' hj (HT1.out.keep hW)
  obtain ⟨m, hm⟩ : ∃ m : Nat, max (f : Int) ((t : Int) - 1) = (m : Int) := ⟨(max (f : Int) ((t : Int) - 1)).toNat, by omega⟩
  have hx : lnO l k (f : Int) (t : Int) false D = ((nl (l.take f) : Int), (nl (l.take m) : Int), true) := by
    unfold lnO
    rw [if_neg (by omega), if_pos rfl, hm]
    simp only [Int.toNat_natCast]
  rw [hx]
  have C1 := Hid.mk' (COf.out f (by omega) W1 (Below.refl _ _))
  have C2 := Hid.mk' (COf.out m (by omega))
  generalize nl (l.take f) = x at *
  generalize nl (l.take m) = y at *
  obtain ⟨B, hB⟩ : ∃ b, w.heap.size = b := ⟨_, rfl⟩
  have HB := Hid.mk' hB
  rw [hB] at K1
  have h1 : ¬ ((f : Int) < 0) := by omega
  have h2 : ¬ ((t : Int) < (f : Int)) := by omega
  have h3 : ¬ ((n : Int) < (t : Int)) := by omega
  have hwy : wrap64 ((t : Int) - 1) = (t : Int) - 1 := wrapB (by omega) (by omega)
  have hwy' : IntKind.i64.wrap ((t : Int) - 1) = (t : Int) - 1 := wrapA (by omega) (by omega)
  clear hx COf HT HT1 hft ht hlen
  go_enter Tryz.func38, Tryz.ntmps38
  go_upto_region 1 with fail
  clear hW1 hB
  have k0 : W1.cell? ⟨B, 0, none⟩ = some (.int .i64 (f : Int)) := K1.out.cell rfl
  have k1 : W1.cell? ⟨B, 1, none⟩ = some (.int .i64 (t : Int)) := K1.out.cell rfl
  have k2 : W1.cell? ⟨B, 2, none⟩ = some (.bool false) := K1.out.cell rfl
  go_wp2_with fail
  refine C1.out.mono ?_
  rintro e w2 ⟨rfl, hb2⟩
  have B2 := Hid.mk' hb2
  have K2 := Hid.mk' (K1.out.keep hb2)
  clear hb2 C1 k0 k1 k2
  have k0 : w2.cell? ⟨B, 0, none⟩ = some (.int .i64 (f : Int)) := K2.out.cell rfl
  have k1 : w2.cell? ⟨B, 1, none⟩ = some (.int .i64 (t : Int)) := K2.out.cell rfl
  have k2 : w2.cell? ⟨B, 2, none⟩ = some (.bool false) := K2.out.cell rfl
  dsimp only
  go_wp2_with fail
  refine (C2.out w2 B2.out).mono ?_
  rintro e w3 ⟨rfl, hb3⟩
  have B3 := Hid.mk' (bT L1.out (bT B2.out hb3))
  clear hb3 C2 K2 B2 k0 k1 k2
  dsimp only
  go_wp2_with fail
  exact bodyPost_ret (v := .tuple #[.int .i64 (x : Int), .int .i64 (y : Int), .bool true]) (by simp [results, Tryz.results38]) rfl ⟨rfl, B3.out⟩
theorem linesOf_any' (ao : Option Addr) (n c k : Nat) (F T : Int) (L D : Bool) (l : List UInt8) (w : World) (HT : Hid (Tx w ao n c l)) (hk : k ≤ n) :
    Calls Tryz.prog 38 #[.slice ao n c, .int .i64 (k : Int), .agg #[.int .i64 F, .int .i64 T, .bool L, .bool D]] w fun e w' => e = .returned (lnV (lnO l k F T L D)) ∧ Below w.heap.size w w' := by
  have hlen := HT.out.len
  by_cases h : F < 0 ∨ T < F ∨ (n : Int) < T
  · have e : lnO l k F T L D = (0, 0, false) := by unfold lnO; rw [hlen, if_pos h]
    rw [e]
    exact linesOf_no ao n c k F T L D w h
  · obtain ⟨f, rfl⟩ : ∃ f : Nat, F = (f : Int) := ⟨F.toNat, by omega⟩
    obtain ⟨t, rfl⟩ : ∃ t : Nat, T = (t : Int) := ⟨T.toNat, by omega⟩
    cases L with
    | true => exact linesOf_L ao n c k f t D l w HT hk (by omega) (by omega)
    | false => exact linesOf_B ao n c k f t D l w HT (by omega) (by omega)
end Go.Proofs.YtppefcnopkmhbaaGreatDoor

namespace Go.Proofs.YtppefcnopkmhbaaGreatDoor
open Go.RowKit

set_option maxRecDepth 8000
/-- a turn of numbers, on bytes -/
def tw (f : Int → Int) (b : UInt8) : UInt8 := UInt8.ofNat (f (b.toNat : Int)).toNat
theorem tw_nat {f : Int → Int} (hf : ∀ b, 0 ≤ b → b ≤ 255 → 0 ≤ f b ∧ f b ≤ 255) (b : UInt8) : ((tw f b).toNat : Int) = f (b.toNat : Int) := by
  have h1 := UInt8.toNat_lt b
  have h := hf (b.toNat : Int) (by omega) (by omega)
  unfold tw
  rw [UInt8.toNat_ofNat']
  omega
theorem run_zeros (n : Nat) (hn : n ≤ 140737488355328) : ∃ CS : List Value, CS.length = n ∧ ∀ W : World, (Instr.makeSlice 22 (.int .i64 (n : Int)) (.int .i64 (n : Int))).run Tryz.prog W = .ok (.slice (some ⟨W.heap.size, 0, none⟩) n n) (W.alloc (.cells CS.toArray 5)) := by
  obtain ⟨i0, hi, hz0, hz1, hz2⟩ := info_parts info5
  refine ⟨(madeCells (Value.int .u8 0).cells (n : Int).toNat).toList, by simp [madeCells], fun W => ?_⟩
  have := run_make (P := Tryz.prog) W 22 5 i0 (.int .u8 0) Tryz.underlying22 hi hz0 .i64 .i64 (n : Int) (n : Int) (by omega) (by omega) (by rw [hz2]; omega) (by omega)
  rw [hz1, show (n : Int).toNat = n by omega, Nat.mul_one] at this
  rw [show (n : Int).toNat = n by omega, Array.toArray_toList]
  exact this
/-- a row that is turned up to i -/
def Tnd (f : Int → Int) (l : List UInt8) (X : List Value) (i : Nat) : Prop := ∀ j, j < i → X[j]? = some (.int .u8 (f ((at8 l j).toNat : Int)))
theorem Tnd.set {f : Int → Int} {l : List UInt8} {X : List Value} {i : Nat} (h : Tnd f l X i) (hi : i < X.length) : Tnd f l (X.set i (.int .u8 (f ((at8 l i).toNat : Int)))) (i + 1) := fun j hj => by
  by_cases e : j = i
  · subst e; rw [List.getElem?_set_self hi]
  · rw [List.getElem?_set_ne (Ne.symm e)]; exact h j (by omega)
theorem Tnd.done {f : Int → Int} (hf : ∀ b, 0 ≤ b → b ≤ 255 → 0 ≤ f b ∧ f b ≤ 255) {l : List UInt8} {X : List Value} {i : Nat} (h : Tnd f l X i) (hl : l.length = i) : X.take i = bv (l.map (tw f)) := by
  apply List.ext_getElem?
  intro j
  by_cases hj : j < i
  · rw [List.getElem?_take_of_lt hj, h j hj, bv_at _ _ (by rw [List.length_map]; omega)]
    congr 2
    have e : at8 (l.map (tw f)) j = tw f (at8 l j) := by
      rw [at8_eq (by rw [List.length_map]; omega), at8_eq (by omega), List.getElem_map]
    rw [e, tw_nat hf]
  · rw [List.getElem?_eq_none (by rw [List.length_take]; omega), List.getElem?_eq_none (by rw [bv_length, List.length_map]; omega)]
set_option maxHeartbeats 4000000 in
theorem each_tog (ao : Option Addr) (n c : Nat) (l : List UInt8) (w : World) (HT : Hid (Tx w ao n c l)) (hn : n ≤ 1048576) :
    Calls Tryz.prog 89 #[.slice ao n c, .func (.func 74) #[] #[]] w fun e w' => WbP (l.map (tw tgB)) w e w' := by
  obtain ⟨CS, hCS, hmk⟩ := run_zeros n (by omega)
  have hlen := HT.out.len
  have HL := Hid.mk' hlen
  have HCS := Hid.mk' hCS
  obtain ⟨W1, hW1⟩ : ∃ x, w.alloc (.cells CS.toArray 5) = x := ⟨_, rfl⟩
  have K1 : Hid (Blk W1 w.heap.size 5 CS.toArray) := by unfold Hid; rw [← hW1]; exact Blk.new w 5 _
  have L1 : Hid (Below w.heap.size w W1) := by unfold Hid; rw [← hW1]; exact bAlloc (Below.refl _ _) _
  obtain ⟨B, hB⟩ : ∃ b, w.heap.size = b := ⟨_, rfl⟩
  have HB := Hid.mk' hB
  rw [hB] at K1
  have hmk' : (Instr.makeSlice 22 (.int .i64 (n : Int)) (.int .i64 (n : Int))).run Tryz.prog w = .ok (.slice (some ⟨B, 0, none⟩) n n) W1 := by rw [hmk w, hB, hW1]
  clear hmk hCS hW1 hB
  go_enter Tryz.func89, Tryz.ntmps89
  go_wp2_with fail
  go_loopg [6, 7, 13] n (fun m x6 x7 x13 wx => ∃ (i : Nat) (X : List Value), x13 = .int .i64 (i : Int) ∧ i + m = n ∧ Hid (Blk wx B 5 X.toArray) ∧ Hid (X.length = n) ∧ Hid (Tnd tgB l X i) ∧ Hid (Below B w wx))
  case atStart => exact ⟨0, CS, rfl, by omega, K1.out, HCS.out, fun j hj => absurd hj (by omega), by rw [← HB.out]; exact L1.out⟩
  case round =>
    obtain ⟨i, X, rfl, him, KX, HXl, HTd, KB⟩ := hrel
    clear K1 L1
    by_cases hi : i < n
    · have hi' : (i : Int) < (n : Int) := by omega
      obtain ⟨g, o, rfl, hc⟩ := HT.out.at (by omega)
      have hHT := HT.out.keep (by rw [HB.out]; exact KB.out : Below w.heap.size w wr)
      obtain ⟨g', o', e', hc'⟩ := hHT.at (by omega)
      simp at e'
      obtain ⟨rfl, rfl⟩ := e'
      have h0 := hc' i hi
      have hb1 := UInt8.toNat_lt (at8 l i)
      have C := Hid.mk' (toggle_any ((at8 l i).toNat : Int) wr (by omega) (by omega))
      have hiX : i < X.length := by have := HXl.out; omega
      have hcX : wr.cell? ⟨B, i, none⟩ = some X[i] := KX.out.cell (by simp [hiX])
      have hfX : wr.frozen? ⟨B, i, none⟩ = false := KX.out.frozen i
      have hi0 : (0 : Int) ≤ (i : Int) := by omega
      have hw1 : IntKind.i64.wrap ((i : Int) + 1) = ((i + 1 : Nat) : Int) := by rw [IntKind.wrap_i64]; omega
      have K2 : Hid (Blk (wr.setCell ⟨B, i, none⟩ (.int .u8 (tgB ((at8 l i).toNat : Int)))) B 5 (X.set i (.int .u8 (tgB ((at8 l i).toNat : Int)))).toArray) := by
        have := KX.out.set (j := i) (.int .u8 (tgB ((at8 l i).toNat : Int)))
        rwa [show X.toArray.setIfInBounds i (.int .u8 (tgB ((at8 l i).toNat : Int))) = (X.set i (.int .u8 (tgB ((at8 l i).toNat : Int)))).toArray by simp] at this
      have L2 : Hid (Below B w (wr.setCell ⟨B, i, none⟩ (.int .u8 (tgB ((at8 l i).toNat : Int))))) := KB.out.setCell (Nat.le_refl _) _
      have HT2 := Hid.mk' (HTd.out.set hiX)
      generalize tgB ((at8 l i).toNat : Int) = q at *
      generalize ((at8 l i).toNat : Int) = z at *
      clear hc hHT hc' hb1 KX
      go_wp2_with (first | (go_at_call 74; refine C.out.mono ?_; rintro e w' ⟨rfl, hw⟩; have hq := hw.symm; subst hq; clear hw) | fail)
      go_roundg (n - (i + 1))
      case measure => omega
      case rel => exact ⟨i + 1, _, by go_num, by omega, K2.out, by have := HXl.out; simp; exact this, HT2.out, L2.out⟩
    · have hi' : ¬ (i : Int) < (n : Int) := by omega
      have hin : i = n := by omega
      have hfin : WbP (l.map (tw tgB)) w (.returned (.slice (some ⟨B, 0, none⟩) n n)) wr := by
        have hll : (l.map (tw tgB)).length = n := by rw [List.length_map]; exact HL.out
        refine ⟨_, rfl, .inr ⟨B, n, X.toArray, by rw [hll], by rw [HB.out]; exact Nat.le_refl _, KX.out.lt, KX.out, by omega, by unfold maxLen; omega, by have := HXl.out; simp; omega, ?_⟩, by rw [HB.out]; exact KB.out⟩
        rw [hll]
        have := HTd.out.done tg_in (by rw [HL.out, hin])
        rw [hin] at this
        simpa using this
      clear KX HTd KB
      go_wp2
      go_ret
      exact hfin
set_option maxHeartbeats 4000000 in
theorem each_low (ao : Option Addr) (n c : Nat) (l : List UInt8) (w : World) (HT : Hid (Tx w ao n c l)) (hn : n ≤ 1048576) :
    Calls Tryz.prog 89 #[.slice ao n c, .func (.func 75) #[] #[]] w fun e w' => WbP (l.map (tw loB)) w e w' := by
  obtain ⟨CS, hCS, hmk⟩ := run_zeros n (by omega)
  have hlen := HT.out.len
  have HL := Hid.mk' hlen
  have HCS := Hid.mk' hCS
  obtain ⟨W1, hW1⟩ : ∃ x, w.alloc (.cells CS.toArray 5) = x := ⟨_, rfl⟩
  have K1 : Hid (Blk W1 w.heap.size 5 CS.toArray) := by unfold Hid; rw [← hW1]; exact Blk.new w 5 _
  have L1 : Hid (Below w.heap.size w W1) := by unfold Hid; rw [← hW1]; exact bAlloc (Below.refl _ _) _
  obtain ⟨B, hB⟩ : ∃ b, w.heap.size = b := ⟨_, rfl⟩
  have HB := Hid.mk' hB
  rw [hB] at K1
  have hmk' : (Instr.makeSlice 22 (.int .i64 (n : Int)) (.int .i64 (n : Int))).run Tryz.prog w = .ok (.slice (some ⟨B, 0, none⟩) n n) W1 := by rw [hmk w, hB, hW1]
  clear hmk hCS hW1 hB
  go_enter Tryz.func89, Tryz.ntmps89
  go_wp2_with fail
  go_loopg [6, 7, 13] n (fun m x6 x7 x13 wx => ∃ (i : Nat) (X : List Value), x13 = .int .i64 (i : Int) ∧ i + m = n ∧ Hid (Blk wx B 5 X.toArray) ∧ Hid (X.length = n) ∧ Hid (Tnd loB l X i) ∧ Hid (Below B w wx))
  case atStart => exact ⟨0, CS, rfl, by omega, K1.out, HCS.out, fun j hj => absurd hj (by omega), by rw [← HB.out]; exact L1.out⟩
  case round =>
    obtain ⟨i, X, rfl, him, KX, HXl, HTd, KB⟩ := hrel
    clear K1 L1
    by_cases hi : i < n
    · have hi' : (i : Int) < (n : Int) := by omega
      obtain ⟨g, o, rfl, hc⟩ := HT.out.at (by omega)
      have hHT := HT.out.keep (by rw [HB.out]; exact KB.out : Below w.heap.size w wr)
      obtain ⟨g', o', e', hc'⟩ := hHT.at (by omega)
      simp at e'
      obtain ⟨rfl, rfl⟩ := e'
      have h0 := hc' i hi
      have hb1 := UInt8.toNat_lt (at8 l i)
      have C := Hid.mk' (lower_any ((at8 l i).toNat : Int) wr (by omega) (by omega))
      have hiX : i < X.length := by have := HXl.out; omega
      have hcX : wr.cell? ⟨B, i, none⟩ = some X[i] := KX.out.cell (by simp [hiX])
      have hfX : wr.frozen? ⟨B, i, none⟩ = false := KX.out.frozen i
      have hi0 : (0 : Int) ≤ (i : Int) := by omega
      have hw1 : IntKind.i64.wrap ((i : Int) + 1) = ((i + 1 : Nat) : Int) := by rw [IntKind.wrap_i64]; omega
      have K2 : Hid (Blk (wr.setCell ⟨B, i, none⟩ (.int .u8 (loB ((at8 l i).toNat : Int)))) B 5 (X.set i (.int .u8 (loB ((at8 l i).toNat : Int)))).toArray) := by
        have := KX.out.set (j := i) (.int .u8 (loB ((at8 l i).toNat : Int)))
        rwa [show X.toArray.setIfInBounds i (.int .u8 (loB ((at8 l i).toNat : Int))) = (X.set i (.int .u8 (loB ((at8 l i).toNat : Int)))).toArray by simp] at this
      have L2 : Hid (Below B w (wr.setCell ⟨B, i, none⟩ (.int .u8 (loB ((at8 l i).toNat : Int))))) := KB.out.setCell (Nat.le_refl _) _
      have HT2 := Hid.mk' (HTd.out.set hiX)
      generalize loB ((at8 l i).toNat : Int) = q at *
      generalize ((at8 l i).toNat : Int) = z at *
      clear hc hHT hc' hb1 KX
      go_wp2_with (first | (go_at_call 75; refine C.out.mono ?_; rintro e w' ⟨rfl, hw⟩; have hq := hw.symm; subst hq; clear hw) | fail)
      go_roundg (n - (i + 1))
      case measure => omega
      case rel => exact ⟨i + 1, _, by go_num, by omega, K2.out, by have := HXl.out; simp; exact this, HT2.out, L2.out⟩
    · have hi' : ¬ (i : Int) < (n : Int) := by omega
      have hin : i = n := by omega
      have hfin : WbP (l.map (tw loB)) w (.returned (.slice (some ⟨B, 0, none⟩) n n)) wr := by
        have hll : (l.map (tw loB)).length = n := by rw [List.length_map]; exact HL.out
        refine ⟨_, rfl, .inr ⟨B, n, X.toArray, by rw [hll], by rw [HB.out]; exact Nat.le_refl _, KX.out.lt, KX.out, by omega, by unfold maxLen; omega, by have := HXl.out; simp; omega, ?_⟩, by rw [HB.out]; exact KB.out⟩
        rw [hll]
        have := HTd.out.done lo_in (by rw [HL.out, hin])
        rw [hin] at this
        simpa using this
      clear KX HTd KB
      go_wp2
      go_ret
      exact hfin
set_option maxHeartbeats 4000000 in
theorem each_upp (ao : Option Addr) (n c : Nat) (l : List UInt8) (w : World) (HT : Hid (Tx w ao n c l)) (hn : n ≤ 1048576) :
    Calls Tryz.prog 89 #[.slice ao n c, .func (.func 76) #[] #[]] w fun e w' => WbP (l.map (tw upB)) w e w' := by
  obtain ⟨CS, hCS, hmk⟩ := run_zeros n (by omega)
  have hlen := HT.out.len
  have HL := Hid.mk' hlen
  have HCS := Hid.mk' hCS
  obtain ⟨W1, hW1⟩ : ∃ x, w.alloc (.cells CS.toArray 5) = x := ⟨_, rfl⟩
  have K1 : Hid (Blk W1 w.heap.size 5 CS.toArray) := by unfold Hid; rw [← hW1]; exact Blk.new w 5 _
  have L1 : Hid (Below w.heap.size w W1) := by unfold Hid; rw [← hW1]; exact bAlloc (Below.refl _ _) _
  obtain ⟨B, hB⟩ : ∃ b, w.heap.size = b := ⟨_, rfl⟩
  have HB := Hid.mk' hB
  rw [hB] at K1
  have hmk' : (Instr.makeSlice 22 (.int .i64 (n : Int)) (.int .i64 (n : Int))).run Tryz.prog w = .ok (.slice (some ⟨B, 0, none⟩) n n) W1 := by rw [hmk w, hB, hW1]
  clear hmk hCS hW1 hB
  go_enter Tryz.func89, Tryz.ntmps89
  go_wp2_with fail
  go_loopg [6, 7, 13] n (fun m x6 x7 x13 wx => ∃ (i : Nat) (X : List Value), x13 = .int .i64 (i : Int) ∧ i + m = n ∧ Hid (Blk wx B 5 X.toArray) ∧ Hid (X.length = n) ∧ Hid (Tnd upB l X i) ∧ Hid (Below B w wx))
  case atStart => exact ⟨0, CS, rfl, by omega, K1.out, HCS.out, fun j hj => absurd hj (by omega), by rw [← HB.out]; exact L1.out⟩
  case round =>
    obtain ⟨i, X, rfl, him, KX, HXl, HTd, KB⟩ := hrel
    clear K1 L1
    by_cases hi : i < n
    · have hi' : (i : Int) < (n : Int) := by omega
      obtain ⟨g, o, rfl, hc⟩ := HT.out.at (by omega)
      have hHT := HT.out.keep (by rw [HB.out]; exact KB.out : Below w.heap.size w wr)
      obtain ⟨g', o', e', hc'⟩ := hHT.at (by omega)
      simp at e'
      obtain ⟨rfl, rfl⟩ := e'
      have h0 := hc' i hi
      have hb1 := UInt8.toNat_lt (at8 l i)
      have C := Hid.mk' (upper_any ((at8 l i).toNat : Int) wr (by omega) (by omega))
      have hiX : i < X.length := by have := HXl.out; omega
      have hcX : wr.cell? ⟨B, i, none⟩ = some X[i] := KX.out.cell (by simp [hiX])
      have hfX : wr.frozen? ⟨B, i, none⟩ = false := KX.out.frozen i
      have hi0 : (0 : Int) ≤ (i : Int) := by omega
      have hw1 : IntKind.i64.wrap ((i : Int) + 1) = ((i + 1 : Nat) : Int) := by rw [IntKind.wrap_i64]; omega
      have K2 : Hid (Blk (wr.setCell ⟨B, i, none⟩ (.int .u8 (upB ((at8 l i).toNat : Int)))) B 5 (X.set i (.int .u8 (upB ((at8 l i).toNat : Int)))).toArray) := by
        have := KX.out.set (j := i) (.int .u8 (upB ((at8 l i).toNat : Int)))
        rwa [show X.toArray.setIfInBounds i (.int .u8 (upB ((at8 l i).toNat : Int))) = (X.set i (.int .u8 (upB ((at8 l i).toNat : Int)))).toArray by simp] at this
      have L2 : Hid (Below B w (wr.setCell ⟨B, i, none⟩ (.int .u8 (upB ((at8 l i).toNat : Int))))) := KB.out.setCell (Nat.le_refl _) _
      have HT2 := Hid.mk' (HTd.out.set hiX)
      generalize upB ((at8 l i).toNat : Int) = q at *
      generalize ((at8 l i).toNat : Int) = z at *
      clear hc hHT hc' hb1 KX
      go_wp2_with (first | (go_at_call 76; refine C.out.mono ?_; rintro e w' ⟨rfl, hw⟩; have hq := hw.symm; subst hq; clear hw) | fail)
      go_roundg (n - (i + 1))
      case measure => omega
      case rel => exact ⟨i + 1, _, by go_num, by omega, K2.out, by have := HXl.out; simp; exact this, HT2.out, L2.out⟩
    · have hi' : ¬ (i : Int) < (n : Int) := by omega
      have hin : i = n := by omega
      have hfin : WbP (l.map (tw upB)) w (.returned (.slice (some ⟨B, 0, none⟩) n n)) wr := by
        have hll : (l.map (tw upB)).length = n := by rw [List.length_map]; exact HL.out
        refine ⟨_, rfl, .inr ⟨B, n, X.toArray, by rw [hll], by rw [HB.out]; exact Nat.le_refl _, KX.out.lt, KX.out, by omega, by unfold maxLen; omega, by have := HXl.out; simp; omega, ?_⟩, by rw [HB.out]; exact KB.out⟩
        rw [hll]
        have := HTd.out.done up_in (by rw [HL.out, hin])
        rw [hin] at this
        simpa using this
      clear KX HTd KB
      go_wp2
      go_ret
      exact hfin
end Go.Proofs.YtppefcnopkmhbaaGreatDoor
