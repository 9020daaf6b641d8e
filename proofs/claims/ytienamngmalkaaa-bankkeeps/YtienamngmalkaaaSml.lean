/- bytes.Clone, alone, isHow, isGreat, register. -/
import Derived.Test.YtienamngmalkaaaBk
import Derived.Deep.RegionHeld3
import Derived.Lib.SlBytesConst
namespace Go.Proofs.Ytienamngmalkaaa
open Go.RowKit

set_option maxRecDepth 8000
theorem own0 (w : World) : (w.alloc (.cells #[] 5)).ownsRow w.heap.size 5 1 (.slice (some ⟨w.heap.size, 0, none⟩) 0 0) 0 [] := by
  have := World.ownsRow_made w #[] 0 (base := w.heap.size) (e := 5) (size := 1) (by simp) (by decide) rfl
  exact this
theorem own_txl {W : World} {base n : Nat} {v : Value} {l : List UInt8} (h : W.ownsRow base 5 1 v n (bv l)) (hb : n ≤ 150000000000000) : ∃ ao c, v = .slice ao n c ∧ Tx W ao n c l := by
  have hl : l.length = n := by have := h.1; rw [bv_length] at this; omega
  rcases h.2 with ⟨rfl, rfl⟩ | ⟨g, cap, cur, rfl, h1, h2, h3, h4, h5, h6⟩
  · obtain rfl := List.eq_nil_of_length_eq_zero hl
    exact ⟨none, 0, rfl, tx_nil W⟩
  · refine ⟨_, cap, rfl, hl, h3, hb, (fun h => by cases h), fun a ha j hj => ?_⟩
    obtain rfl : (⟨g, 0, none⟩ : Addr) = a := by simpa using ha
    rw [add_none, Nat.zero_add, h.cellAt j (by omega)]
    exact bv_at l j (by omega)
theorem bAlloc' {n : Nat} {w : World} (h : n ≤ w.heap.size) (o : Obj) : Below n w (w.alloc o) := (Below.refl n w).alloc h o
theorem own_set {W : World} {base e s n k j : Nat} {v u : Value} {xs : List Value} (h : W.ownsRow base e s v n xs) (hk : k < base) : (W.setCell ⟨k, j, none⟩ u).ownsRow base e s v n xs := by
  refine ⟨h.1, ?_⟩
  rcases h.2 with h0 | ⟨g, cap, cur, rfl, hb', hg, rest⟩
  · exact .inl h0
  · exact .inr ⟨g, cap, cur, rfl, hb', by rw [heap_setCell_other _ _ _ _ (show g ≠ k by omega)]; exact hg, rest⟩
theorem bset {w W : World} {b j : Nat} (h : Below w.heap.size w W) (v : Value) (hb : w.heap.size ≤ b) : Below w.heap.size w (W.setCell ⟨b, j, none⟩ v) := h.setCell hb v
theorem bset3' {w W : World} (h : Below w.heap.size w W) (a b c : Value) : Below w.heap.size w (((W.setCell ⟨w.heap.size + 1, 0, none⟩ a).setCell ⟨w.heap.size + 1, 1, none⟩ b).setCell ⟨w.heap.size + 1, 2, none⟩ c) :=
  bset (bset (bset h _ (Nat.le_succ _)) _ (Nat.le_succ _)) _ (Nat.le_succ _)
theorem own_set3 {W : World} {b e s n : Nat} {v x y z : Value} {xs : List Value} (h : W.ownsRow (b + 2) e s v n xs) : (((W.setCell ⟨b + 1, 0, none⟩ x).setCell ⟨b + 1, 1, none⟩ y).setCell ⟨b + 1, 2, none⟩ z).ownsRow b e s v n xs :=
  own_lower (own_set (own_set (own_set h (by omega)) (by omega)) (by omega)) (by omega)
theorem ld24 {W : World} {B : Nat} {x y : Bool} {a : Option Addr} {n c : Nat} (h : Blk W B 24 #[.bool x, .bool y, .slice a n c]) : (loadVar 24 ⟨B, 0, none⟩).run Try.prog W = .ok (.agg #[.bool x, .bool y, .slice a n c]) W := by
  have h0 : W.cell? ⟨B, 0, none⟩ = some (.bool x) := h.cell rfl
  have h1 : W.cell? ⟨B, 1, none⟩ = some (.bool y) := h.cell rfl
  have h2 : W.cell? ⟨B, 2, none⟩ = some (.slice a n c) := h.cell rfl
  refine run_loadVar_mid W B 0 24 [.bool x, .bool y, .slice a n c] _ (fun j v hv => ?_) Try.underlying24 rfl (by kernel_rfl)
  match j, hv with
  | 0, hv => simp at hv; subst hv; simpa using h0
  | 1, hv => simp at hv; subst hv; simpa using h1
  | 2, hv => simp at hv; subst hv; simpa using h2
/-- bytes.Clone -/
theorem clone_any (ao : Option Addr) (n c : Nat) (l : List UInt8) (w : World) (h : Hid (Tx w ao n c l)) (hn : n ≤ 140737488355328) :
    Calls Try.prog 34 #[.slice ao n c] w fun e w' => ∃ v, e = .returned v ∧ w'.ownsRow w.heap.size 5 1 v n (bv l) ∧ Below w.heap.size w w' := by
  have q22 : ∀ (w : World) (a : Option Addr) (n c n' c' : Nat), (binOp .eql 22 (.slice a n c) (.slice none n' c')).run Try.prog w = .ok (.bool a.isNone) w := fun w a n c n' c' => Lib.run_eql_slice_nil w _ _ a n c n' c' Try.underlying22
  have O0 := Hid.mk' (own0 w)
  have hlen := Hid.mk' h.out.len
  cases ao with
  | none =>
    obtain ⟨rfl, rfl, rfl⟩ := h.out.none
    go_enter Try.func34, Try.ntmps34
    go_wp2
    go_ret
    exact ⟨_, rfl, World.ownsRow_nil _ _ _ _, Below.refl _ _⟩
  | some a =>
    go_enter Try.func34, Try.ntmps34
    go_wp2_with (at_builtin; refine append_big rfl (.tmp 5) (.tmp 6) rfl w.heap.size (.slice (some ⟨w.heap.size, 0, none⟩) 0 0) 0 [] rfl O0.out (.slice (some a) n c) n (bv l) rfl ((h.out.keep (bAlloc (Below.refl _ _) _)).srv) (by rw [bv_length]; exact hlen.out) (bv_one _) (by omega) hn (by simp) ?_)
    intro v4 w4 hown4 hgrow4 _
    have HB4 : Hid (Below w.heap.size w w4) := (bAlloc' (Nat.le_refl _) _).grown hgrow4 (by simp) (fun k hk => by simp [Value.ownBlock] at hk; omega)
    have HO4 : Hid (w4.ownsRow w.heap.size 5 1 v4 n (bv l)) := by unfold Hid; simpa using hown4
    clear hown4 hgrow4
    go_wp2
    go_ret
    exact ⟨_, rfl, HO4.out, HB4.out⟩

/-- alone -/
theorem alone_any (s l : Bool) (ao : Option Addr) (n c : Nat) (t : List UInt8) (w : World) (h : Hid (Tx w ao n c t)) (hn : n ≤ 140737488355328) :
    Calls Try.prog 26 #[.agg #[.bool s, .bool l, .slice ao n c]] w fun e w' => ∃ a' c', e = .returned (.agg #[.bool s, .bool l, .slice a' n c']) ∧ w'.ownsRow w.heap.size 5 1 (.slice a' n c') n (bv t) ∧ Below w.heap.size w w' := by
  have B1 : Hid (Blk ((w.alloc (.cells #[.bool s, .bool l, .slice ao n c] 24)).alloc (.cells #[.bool false, .bool false, .slice none 0 0] 24)) w.heap.size 24 #[.bool s, .bool l, .slice ao n c]) := (Blk.new w 24 _).keep (bAlloc (Below.refl _ _) _)
  have B2 : Hid (Blk ((w.alloc (.cells #[.bool s, .bool l, .slice ao n c] 24)).alloc (.cells #[.bool false, .bool false, .slice none 0 0] 24)) (w.heap.size + 1) 24 #[.bool false, .bool false, .slice none 0 0]) := by
    have := Blk.new (w.alloc (.cells #[.bool s, .bool l, .slice ao n c] 24)) 24 #[.bool false, .bool false, .slice none 0 0]
    rwa [World.size_alloc] at this
  have BE : Hid (Below w.heap.size w ((w.alloc (.cells #[.bool s, .bool l, .slice ao n c] 24)).alloc (.cells #[.bool false, .bool false, .slice none 0 0] 24))) := bAlloc (bAlloc (Below.refl _ _) _) _
  have CL := Hid.mk' (clone_any ao n c t _ (h.out.keep BE.out) hn)
  go_enter Try.func26, Try.ntmps26
  go_wp2_with fail
  refine CL.out.mono ?_
  rintro e w5 ⟨v5, rfl, hO5, hb5⟩
  obtain ⟨a5, c5, hv5⟩ := own_shape hO5
  subst hv5
  have O5 := Hid.mk' hO5
  have K1 := Hid.mk' (B1.out.keep hb5)
  have K2 := Hid.mk' (B2.out.keep hb5)
  have BF := Hid.mk' (bT BE.out hb5)
  clear hO5 hb5 B1 B2 BE CL
  have q0 : w5.cell? ⟨w.heap.size, 0, none⟩ = some (.bool s) := K1.out.cell rfl
  have q1 : w5.cell? ⟨w.heap.size, 1, none⟩ = some (.bool l) := K1.out.cell rfl
  have q2 : w5.cell? ⟨w.heap.size, 2, none⟩ = some (.slice ao n c) := K1.out.cell rfl
  have f2 := K1.out.frozen 2
  have r0 : w5.cell? ⟨w.heap.size + 1, 0, none⟩ = some (.bool false) := K2.out.cell rfl
  have r1 : w5.cell? ⟨w.heap.size + 1, 1, none⟩ = some (.bool false) := K2.out.cell rfl
  have r2 : w5.cell? ⟨w.heap.size + 1, 2, none⟩ = some (.slice none 0 0) := K2.out.cell rfl
  have g0 := K2.out.frozen 0
  have g1 := K2.out.frozen 1
  have g2 := K2.out.frozen 2
  have hlv := ld24 ((((K2.out.off (j := 2) (Nat.succ_ne_self _) (.slice a5 n c5)).set (j := 0) (.bool s)).set (j := 1) (.bool l)).set (j := 2) (.slice a5 n c5))
  have O6 : w5.ownsRow (w.heap.size + 2) 5 1 (.slice a5 n c5) n (bv t) := by have := O5.out; rwa [World.size_alloc, World.size_alloc] at this
  have O7 := Hid.mk' O6
  clear O5 O6
  go_wp2
  exact bodyPost_ret (v := .agg #[.bool s, .bool l, .slice a5 n c5]) (by simp [results, Try.results26, asAddr, hlv]) rfl ⟨_, _, rfl, own_set3 (own_set O7.out (by omega)), bset3' (bset BF.out _ (Nat.le_refl _)) _ _ _⟩

theorem isHow_any (h : Int) (w : World) : Calls Try.prog 28 #[.int .i64 h] w fun e w' => e = .returned (.bool (decide (1 ≤ h ∧ h ≤ 3))) ∧ w' = w := by
  by_cases h1 : h = 1
  · subst h1
    go_enter Try.func28, Try.ntmps28
    go_wp2
    go_ret
    exact ⟨rfl, rfl⟩
  by_cases h2 : h = 2
  · subst h2
    go_enter Try.func28, Try.ntmps28
    go_wp2
    go_ret
    exact ⟨rfl, rfl⟩
  by_cases h3 : h = 3
  · subst h3
    go_enter Try.func28, Try.ntmps28
    go_wp2
    go_ret
    exact ⟨rfl, rfl⟩
  rw [decide_eq_false (by omega)]
  have e1 : (h == 1) = false := by simpa using h1
  have e2 : (h == 2) = false := by simpa using h2
  have e3 : (h == 3) = false := by simpa using h3
  go_enter Try.func28, Try.ntmps28
  go_wp2
  go_ret
  exact ⟨rfl, rfl⟩
/-- a great letter -/
def grt (x : Nat) : Bool := decide (65 ≤ x ∧ x ≤ 90)
theorem isGreat_any (x : Nat) (w : World) : Calls Try.prog 30 #[.int .u8 (x : Int)] w fun e w' => e = .returned (.bool (grt x)) ∧ w' = w := by
  unfold grt
  by_cases h1 : x < 65
  · have h2 : (x : Int) < 65 := by omega
    rw [decide_eq_false (by omega)]
    go_enter Try.func30, Try.ntmps30
    go_wp2
    go_ret
    exact ⟨rfl, rfl⟩
  · have h2 : ¬ (x : Int) < 65 := by omega
    have h4 : (65 : Int) ≤ (x : Int) := by omega
    by_cases h3 : x ≤ 90
    · have h5 : (x : Int) ≤ 90 := by omega
      rw [decide_eq_true (by omega)]
      go_enter Try.func30, Try.ntmps30
      go_wp2
      go_ret
      exact ⟨rfl, rfl⟩
    · have h5 : ¬ (x : Int) ≤ 90 := by omega
      rw [decide_eq_false (by omega)]
      go_enter Try.func30, Try.ntmps30
      go_wp2
      go_ret
      exact ⟨rfl, rfl⟩
/-- which register has a name -/
def rix (x : Nat) : Option Nat :=
  if x = 0 ∨ x = 34 then some 0 else if x = 45 then some 1 else if 49 ≤ x ∧ x ≤ 57 then some (2 + (x - 49)) else if 97 ≤ x ∧ x ≤ 122 then some (11 + (x - 97)) else if 65 ≤ x ∧ x ≤ 90 then some (11 + (x - 65)) else none
/-- a register's address -/
def rgp (B : Nat) (k : Option Nat) : Value := .pointer (k.map fun k => ⟨B, 3 * k, none⟩)
set_option maxHeartbeats 1000000 in
theorem register_any (B x : Nat) (w : World) (hx : x < 256) : Calls Try.prog 25 #[.pointer (some ⟨B, 0, none⟩), .int .u8 (x : Int)] w fun e w' => e = .returned (rgp B (rix x)) ∧ w' = w := by
  have CG := Hid.mk' (isGreat_any x w)
  unfold grt at CG
  unfold rix
  by_cases h0 : x = 0
  · subst h0
    clear CG
    go_enter Try.func25, Try.ntmps25
    go_wp2
    go_ret
    exact ⟨rfl, rfl⟩
  by_cases h1 : x = 34
  · subst h1
    clear CG
    go_enter Try.func25, Try.ntmps25
    go_wp2
    go_ret
    exact ⟨rfl, rfl⟩
  rw [if_neg (by omega)]
  by_cases h2 : x = 45
  · subst h2
    clear CG
    go_enter Try.func25, Try.ntmps25
    go_wp2
    go_ret
    exact ⟨rfl, rfl⟩
  rw [if_neg h2]
  have i0 : ¬ (x : Int) = 0 := by omega
  have i1 : ¬ (x : Int) = 34 := by omega
  have i2 : ¬ (x : Int) = 45 := by omega
  have i3 : (0 : Int) ≤ (x : Int) := by omega
  have i4 : (x : Int) < 256 := by omega
  by_cases h3 : 49 ≤ x ∧ x ≤ 57
  · obtain ⟨k, rfl⟩ : ∃ k, x = 49 + k := ⟨x - 49, by omega⟩
    rw [if_pos h3]
    have j1 : ((49 + k : Nat) : Int) = 49 + (k : Int) := by omega
    have u1 : ((49 + (k : Int)) == 0) = false := by simp; omega
    have u2 : ((49 + (k : Int)) == 34) = false := by simp; omega
    have u3 : ((49 + (k : Int)) == 45) = false := by simp; omega
    have j2 : (k : Int) < 9 := by omega
    have j3 : IntKind.u8.wrap (49 + (k : Int) - 49) = (k : Int) := by rw [IntKind.wrap_u8]; omega
    have e9 : rgp B (some (2 + (49 + k - 49))) = .pointer (some ⟨B, 6 + k * 3, none⟩) := by unfold rgp; simp [Nat.mul_comm]
    rw [e9]
    clear e9
    clear CG
    go_enter Try.func25, Try.ntmps25
    go_wp2
    go_ret
    exact ⟨rfl, rfl⟩
  rw [if_neg h3]
  have i5 : ¬ (49 ≤ (x : Int) ∧ (x : Int) ≤ 57) := by omega
  by_cases h4 : 97 ≤ x ∧ x ≤ 122
  · obtain ⟨k, rfl⟩ : ∃ k, x = 97 + k := ⟨x - 97, by omega⟩
    rw [if_pos h4]
    have j1 : ((97 + k : Nat) : Int) = 97 + (k : Int) := by omega
    have u1 : ((97 + (k : Int)) == 0) = false := by simp; omega
    have u2 : ((97 + (k : Int)) == 34) = false := by simp; omega
    have u3 : ((97 + (k : Int)) == 45) = false := by simp; omega
    have j2 : (k : Int) < 26 := by omega
    have j3 : IntKind.u8.wrap (97 + (k : Int) - 97) = (k : Int) := by rw [IntKind.wrap_u8]; omega
    have e9 : rgp B (some (11 + (97 + k - 97))) = .pointer (some ⟨B, 33 + k * 3, none⟩) := by unfold rgp; simp [Nat.mul_comm]
    rw [e9]
    clear e9
    have j4 : (97 + (k : Int)) ≤ 122 := by omega
    have j5 : ¬ (97 + (k : Int)) ≤ 57 := by omega
    clear CG
    go_enter Try.func25, Try.ntmps25
    go_wp2
    go_ret
    exact ⟨rfl, rfl⟩
  rw [if_neg h4]
  have i6 : ¬ (97 ≤ (x : Int) ∧ (x : Int) ≤ 122) := by omega
  by_cases h5 : 65 ≤ x ∧ x ≤ 90
  · rw [decide_eq_true h5] at CG
    obtain ⟨k, rfl⟩ : ∃ k, x = 65 + k := ⟨x - 65, by omega⟩
    rw [if_pos h5]
    have j1 : ((65 + k : Nat) : Int) = 65 + (k : Int) := by omega
    have u1 : ((65 + (k : Int)) == 0) = false := by simp; omega
    have u2 : ((65 + (k : Int)) == 34) = false := by simp; omega
    have u3 : ((65 + (k : Int)) == 45) = false := by simp; omega
    have j2 : (k : Int) < 26 := by omega
    have j3 : IntKind.u8.wrap (65 + (k : Int) - 65) = (k : Int) := by rw [IntKind.wrap_u8]; omega
    have e9 : rgp B (some (11 + (65 + k - 65))) = .pointer (some ⟨B, 33 + k * 3, none⟩) := by unfold rgp; simp [Nat.mul_comm]
    rw [e9]
    clear e9
    have j4 : (65 + (k : Int)) ≤ 122 := by omega
    have j5 : ¬ (65 + (k : Int)) ≤ 57 := by omega
    have j6 : ¬ 97 ≤ (65 + (k : Int)) := by omega
    rw [j1] at CG
    go_enter Try.func25, Try.ntmps25
    go_wp2_with (go_at_call 30; refine CG.out.mono ?_; rintro e w2 ⟨rfl, hw⟩; have hq := hw.symm; subst hq; clear hw)
    go_ret
    exact ⟨rfl, rfl⟩
  rw [if_neg h5]
  rw [decide_eq_false h5] at CG
  have e1 : ((x : Int) == 0) = false := by simpa using i0
  have e2 : ((x : Int) == 34) = false := by simpa using i1
  have e3 : ((x : Int) == 45) = false := by simpa using i2
  by_cases k1 : (x : Int) < 49
  · have k2 : ¬ 49 ≤ (x : Int) := by omega
    have k3 : ¬ 97 ≤ (x : Int) := by omega
    go_enter Try.func25, Try.ntmps25
    go_wp2_with (go_at_call 30; refine CG.out.mono ?_; rintro e w2 ⟨rfl, hw⟩; have hq := hw.symm; subst hq; clear hw)
    go_ret
    exact ⟨rfl, rfl⟩
  have k2 : 49 ≤ (x : Int) := by omega
  have k3 : ¬ (x : Int) ≤ 57 := by omega
  by_cases k4 : 97 ≤ (x : Int)
  · have k5 : ¬ (x : Int) ≤ 122 := by omega
    go_enter Try.func25, Try.ntmps25
    go_wp2_with (go_at_call 30; refine CG.out.mono ?_; rintro e w2 ⟨rfl, hw⟩; have hq := hw.symm; subst hq; clear hw)
    go_ret
    exact ⟨rfl, rfl⟩
  go_enter Try.func25, Try.ntmps25
  go_wp2_with (go_at_call 30; refine CG.out.mono ?_; rintro e w2 ⟨rfl, hw⟩; have hq := hw.symm; subst hq; clear hw)
  go_ret
  exact ⟨rfl, rfl⟩
end Go.Proofs.Ytienamngmalkaaa
