/- Shh -/
import Derived.Test.YtppefcnopkmhbaaGreatDoorPq16
namespace Go.Proofs.YtppefcnopkmhbaaGreatDoor
open Go.RowKit

set_option maxRecDepth 8000
/-- what > does at a line's head: how many bytes go, how many tabs come -/
def hdI (k : Nat) (p : List UInt8) : Nat × Nat := if p.length = 0 then (0, 0) else (0, k)
/-- what < does -/
def hdO (k : Nat) (p : List UInt8) : Nat × Nat := (mgn p k 0, 0)
def hdV (x : Nat × Nat) : Value := .tuple #[.int .i64 (x.1 : Int), .int .i64 (x.2 : Int)]
theorem tsk_cnt {W : World} {B : Nat} {tv : Value} {at' F T : Int} {L D : Bool} {a b c : Int} (h : Blk W B 90 (tskC tv at' F T L D a b c)) : W.cell? ⟨B, 8, none⟩ = some (.int .i64 c) := h.cell rfl
set_option maxHeartbeats 2000000 in
theorem ind1_any (ao : Option Addr) (n c C : Nat) (l : List UInt8) (w : World) (HT : Hid (Tx w ao n c l)) (tv : Value) (at' F T : Int) (L D : Bool) (a b : Int) (k : Nat) (HC : Hid (Blk w C 90 (tskC tv at' F T L D a b (k : Int)))) :
    Calls Tryz.prog 103 #[.slice ao n c, .pointer (some ⟨C, 0, none⟩)] w fun e w' => e = .returned (hdV (hdI k l)) ∧ Below w.heap.size w w' := by
  have hl := HT.out.len
  unfold hdI hdV
  rw [hl]
  have h8 := tsk_cnt HC.out
  clear HT HC hl
  by_cases hn : n = 0
  · subst hn
    rw [if_pos rfl]
    go_enter Tryz.func103, Tryz.ntmps103
    go_wp2
    go_ret2
    exact ⟨rfl, Below.refl _ _⟩
  · rw [if_neg hn]
    have h0 : ((n : Int) == 0) = false := by simp; omega
    go_enter Tryz.func103, Tryz.ntmps103
    go_upto_region 3 with fail
    go_region
    go_wp2
    go_ret2
    exact ⟨rfl, (Below.refl _ _).drew⟩
set_option maxHeartbeats 2000000 in
theorem out1_any (ao : Option Addr) (n c C : Nat) (l : List UInt8) (w : World) (HT : Hid (Tx w ao n c l)) (tv : Value) (at' F T : Int) (L D : Bool) (a b : Int) (k : Nat) (hk : k ≤ 9999) (HC : Hid (Blk w C 90 (tskC tv at' F T L D a b (k : Int)))) :
    Calls Tryz.prog 104 #[.slice ao n c, .pointer (some ⟨C, 0, none⟩)] w fun e w' => e = .returned (hdV (hdO k l)) ∧ Below w.heap.size w w' := by
  unfold hdO hdV
  have h8 := tsk_cnt HC.out
  have CM := Hid.mk' (margin_any ao n c k l w HT.out hk)
  clear HT HC
  go_enter Tryz.func104, Tryz.ntmps104
  go_wp2_with (first | (go_at_call 105; refine CM.out.mono ?_; rintro e w' ⟨rfl, hw⟩) | fail)
  go_ret2
  exact ⟨rfl, hw⟩
end Go.Proofs.YtppefcnopkmhbaaGreatDoor
