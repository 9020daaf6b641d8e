/- SeekBack walked. -/
import Derived.Test.YtinlkeionoghdaaOnW
import Derived.Test.YtinlkeionoghdaaPb
namespace Go.Proofs.Ytinlkeionoghdaa
open Go.RowKit

set_option maxHeartbeats 2000000 in
theorem seekBack_no (ao : Option Addr) (n c : Nat) (i cc dd b : Int) (w : World) (h : cc < 1 ∨ (1 ≤ cc ∧ dd < 1) ∨ (1 ≤ cc ∧ 1 ≤ dd ∧ 4999 < cc) ∨ (1 ≤ cc ∧ 1 ≤ dd ∧ cc ≤ 4999 ∧ 4999 < dd)) :
    Calls Try.prog 6 #[.slice ao n c, .int .i64 i, .int .i64 cc, .int .i64 dd, .int .u8 b] w fun e w' => e = .returned (.bool true) ∧ Below w.heap.size w w' := by
  rcases h with h1 | ⟨h1, h2⟩ | ⟨h1, h2, h3⟩ | ⟨h1, h2, h3, h4⟩
  all_goals
    go_enter Try.func6, Try.ntmps6
    go_wp2_with fail
    refine (awake_any _).mono ?_
    rintro e w1 ⟨rfl, hb1⟩
    have B1 := Hid.mk' hb1
    clear hb1
    go_wp2
    go_ret
    exact ⟨rfl, B1.out⟩
set_option maxHeartbeats 2000000 in
theorem seekBack_yes (ao : Option Addr) (n c : Nat) (i cc dd b : Int) (l : List UInt8) (w : World) (hc0 : 1 ≤ cc) (hd0 : 1 ≤ dd) (hc1 : cc ≤ 4999) (hd1 : dd ≤ 4999) (HT : Hid (Tx w ao n c l)) :
    Calls Try.prog 6 #[.slice ao n c, .int .i64 i, .int .i64 cc, .int .i64 dd, .int .u8 b] w fun e w' => e = .returned (.bool true) ∧ Below w.heap.size w w' := by
  have hbig : (n : Int) ≤ 140737488355328 := by have := HT.out.big; omega
  have hl := Hid.mk' HT.out.len
  have d1 : decide (cc < 1) = false := decide_eq_false (by omega)
  have d2 : decide (dd < 1) = false := decide_eq_false (by omega)
  have d3 : decide (4999 < cc) = false := decide_eq_false (by omega)
  have d4 : decide (4999 < dd) = false := decide_eq_false (by omega)
  go_enter Try.func6, Try.ntmps6
  go_wp2_with fail
  refine (awake_any _).mono ?_
  rintro e w1 ⟨rfl, hb1⟩
  have B1 := Hid.mk' hb1
  clear hb1
  go_wp2_with fail
  refine (move_any ao n c i cc 102 b l _ (Hid.mk' (HT.out.keep B1.out))).mono ?_
  rintro e w2 ⟨rfl, hb2⟩
  have B2 := Hid.mk' (bT B1.out hb2)
  clear hb2 B1
  rcases back_first l i cc b with ⟨z, hz, e1⟩ | ⟨p, q, rfl, hp, hq, hh, e1⟩
  · rw [e1, mvE_def]
    clear e1
    dsimp only
    rcases hz with rfl | rfl
    · go_wp2
      go_ret
      exact ⟨rfl, bAlloc B2.out _⟩
    · go_wp2
      go_ret
      exact ⟨rfl, bAlloc B2.out _⟩
  · rw [e1, mvE_def]
    dsimp only
    clear e1
    obtain ⟨xx, yy, zz, ee, kk, kk', E1, E2⟩ := back_parts (d := dd) ⟨hc0, hc1⟩ ⟨hd0, hd1⟩ hp hh
    replace E1 := Hid.mk' E1
    replace E2 := Hid.mk' E2
    have BT := Hid.mk' (fun hs => back_there (b := b) ⟨hc0, hc1⟩ hp hh hs)
    have hpn : (p : Int) ≤ (n : Int) := by have := hl.out; omega
    have hp0 : (0 : Int) ≤ (p : Int) := by omega
    clear hh hp hq
    have c1 : (w2.alloc (.cells #[.int .i64 p, .int .i64 q, .int .i64 2] 29)).cell? ⟨w2.heap.size, 1, none⟩ = some (.int .i64 q) := by simp [go_sem]
    have hz2 : w2.heap.size < (w2.alloc (.cells #[.int .i64 p, .int .i64 q, .int .i64 2] 29)).heap.size := by simp
    have B3 := Hid.mk' (bAlloc B2.out (.cells #[.int .i64 p, .int .i64 q, .int .i64 2] 29))
    clear B2
    go_upto_region 6 with fail
    generalize w2.alloc (.cells #[.int .i64 p, .int .i64 q, .int .i64 2] 29) = W2 at *
    by_cases hpz : p < n
    · obtain ⟨gg, o, rfl, hcl⟩ := (HT.out.keep B3.out).at (by omega)
      have hc0' := hcl p hpz
      clear hcl
      have hpz' : (p : Int) < (n : Int) := by omega
      cases hs : isb l b p with
      | true =>
        have E3 := Hid.mk' (BT.out hs)
        have hs' : (((at8 l p).toNat : Int) == b) = true := hs
        clear hs BT
        go_wp2_with fail
        refine (move_any (some ⟨gg, o, none⟩) n c q cc 70 b l _ (Hid.mk' (HT.out.keep B3.out))).mono ?_
        rintro e w3 ⟨rfl, hb3⟩
        rw [E3.out, mvE_def]
        dsimp only
        replace c1 := keepC hb3 c1
        replace hz2 := lt_of_cell c1
        have B3' := Hid.mk' (bAlloc (bT B3.out hb3) (.cells #[.int .i64 q, .int .i64 p, .int .i64 1] 29))
        clear hb3 B3 hc0' E3
        have B3 := B3'
        clear B3'
        go_wp2_with fail
        refine (move_any (some ⟨gg, o, none⟩) n c q dd 102 b l _ (Hid.mk' (HT.out.keep B3.out))).mono ?_
        rintro e w4 ⟨rfl, hb4⟩
        rw [E1.out, mvE_def]
        dsimp only
        have B4 := Hid.mk' (bT B3.out hb4)
        clear hb4 B3
        go_wp2_with fail
        refine (move_any (some ⟨gg, o, none⟩) n c p (cc + dd) 102 b l _ (Hid.mk' (HT.out.keep (bAlloc B4.out _)))).mono ?_
        rintro e w5 ⟨rfl, hb5⟩
        rw [E2.out, mvE_def]
        dsimp only
        have f1 : w5.cell? ⟨w4.heap.size, 1, none⟩ = some (.int .i64 zz) := keepC hb5 (by simp [go_sem])
        have hz5 := lt_of_cell f1
        have B5 := Hid.mk' (bT (bAlloc B4.out _) hb5)
        clear hb5 B4
        go_wp2
        go_ret
        exact ⟨rfl, bAlloc B5.out _⟩
      | false =>
        have hs' : (((at8 l p).toNat : Int) == b) = false := hs
        clear hs BT
        go_wp2_with fail
        refine (move_any (some ⟨gg, o, none⟩) n c q dd 102 b l _ (Hid.mk' (HT.out.keep B3.out))).mono ?_
        rintro e w4 ⟨rfl, hb4⟩
        rw [E1.out, mvE_def]
        dsimp only
        have B4 := Hid.mk' (bT B3.out hb4)
        clear hb4 B3
        go_wp2_with fail
        refine (move_any (some ⟨gg, o, none⟩) n c p (cc + dd) 102 b l _ (Hid.mk' (HT.out.keep (bAlloc B4.out _)))).mono ?_
        rintro e w5 ⟨rfl, hb5⟩
        rw [E2.out, mvE_def]
        dsimp only
        have f1 : w5.cell? ⟨w4.heap.size, 1, none⟩ = some (.int .i64 zz) := keepC hb5 (by simp [go_sem])
        have hz5 := lt_of_cell f1
        have B5 := Hid.mk' (bT (bAlloc B4.out _) hb5)
        clear hb5 B4
        go_wp2
        go_ret
        exact ⟨rfl, bAlloc B5.out _⟩
    · have hpz' : ¬ ((p : Int) < (n : Int)) := by omega
      clear BT
      go_wp2_with fail
      refine (move_any ao n c q dd 102 b l _ (Hid.mk' (HT.out.keep B3.out))).mono ?_
      rintro e w4 ⟨rfl, hb4⟩
      rw [E1.out, mvE_def]
      dsimp only
      have B4 := Hid.mk' (bT B3.out hb4)
      clear hb4 B3
      go_wp2_with fail
      refine (move_any ao n c p (cc + dd) 102 b l _ (Hid.mk' (HT.out.keep (bAlloc B4.out _)))).mono ?_
      rintro e w5 ⟨rfl, hb5⟩
      rw [E2.out, mvE_def]
      dsimp only
      have f1 : w5.cell? ⟨w4.heap.size, 1, none⟩ = some (.int .i64 zz) := keepC hb5 (by simp [go_sem])
      have hz5 := lt_of_cell f1
      have B5 := Hid.mk' (bT (bAlloc B4.out _) hb5)
      clear hb5 B4
      go_wp2
      go_ret
      exact ⟨rfl, bAlloc B5.out _⟩
theorem seekBack_walk (ao : Option Addr) (n c : Nat) (i cc dd b : Int) (l : List UInt8) (w : World) (HT : Hid (Tx w ao n c l)) :
    Calls Try.prog 6 #[.slice ao n c, .int .i64 i, .int .i64 cc, .int .i64 dd, .int .u8 b] w fun e w' => e = .returned (.bool true) ∧ Below w.heap.size w w' := by
  by_cases h : 1 ≤ cc ∧ 1 ≤ dd ∧ cc ≤ 4999 ∧ dd ≤ 4999
  · exact seekBack_yes ao n c i cc dd b l w h.1 h.2.1 h.2.2.1 h.2.2.2 HT
  · exact seekBack_no ao n c i cc dd b w (by omega)
end Go.Proofs.Ytinlkeionoghdaa
