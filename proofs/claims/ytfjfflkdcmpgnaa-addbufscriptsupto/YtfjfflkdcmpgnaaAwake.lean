/- The contract of quoinlaw01.awake: it answers true, and turns nothing that was there. -/
import Derived.Test.YtfjfflkdcmpgnaaAdd
import Derived.Lib.BufferRead
namespace Go.Proofs.Ytfjfflkdcmpgnaa
open Go.RowKit

theorem touch_below {B : Nat} {w W W' : World} {b : Nat} {row : Option Nat} (h : Below B w W) (ht : Touch W W' b row) (hB : B ≤ W.heap.size) (hb : B ≤ b) (hr : ∀ k, row = some k → B ≤ k) : Below B w W' :=
  ⟨ht.os.trans h.os, ht.tape.trans h.tape, ht.output.trans h.output, Nat.le_trans h.size ht.size, fun k hk => by
    rw [ht.block k (by omega) (by omega) (fun e => absurd (hr k e.symm) (by omega))]; exact h.block k hk⟩

/-- 'string(p)' of bytes that can be read -/
theorem conv_rd {W : World} {v : Value} {l : List UInt8} (h : Rd W v l) : (convert 22 9 v).run Try.prog W = .ok (.string ⟨l.toArray⟩) W := by
  rcases h with ⟨rfl, rfl⟩ | ⟨a, c, rfl, hc⟩
  · exact Lib.run_convert_nil_bytes W 22 9 5 0 Try.underlying22 Try.underlying5 Try.underlying9
  · exact run_convert_bytes_back W 22 9 5 a c l Try.underlying22 Try.underlying5 Try.underlying9 (fun j hj => hc j _ (bv_at l j hj))

/-- a literal's bytes, in a new block -/
theorem rd_lit (w : World) (l : List UInt8) (C : Array Value) (m : Nat × Nat) (c : Nat) (hC : C.toList = bv l) : Rd (w.alloc (.cells C 5 m)) (.slice (some ⟨w.heap.size, 0, none⟩) l.length c) l := by
  refine .inr ⟨_, c, rfl, fun j u hu => ?_⟩
  have : (⟨w.heap.size, 0, none⟩ : Addr).add j = ⟨w.heap.size, j, none⟩ := by unfold Addr.add; split <;> simp_all
  rw [this, World.cell?_alloc_mark, ← Array.getElem?_toList, hC]; exact hu

set_option maxHeartbeats 800000 in
theorem awake_any (w : World) : Calls Try.prog 8 #[] w fun e w' => e = .returned (.bool true) ∧ Below w.heap.size w w' := by
  have kc := fun (w : World) (C : Array Value) (n c : Nat) => Lib.run_convert_bytes_const (P := Try.prog) w 22 5 C n c Try.underlying22 Try.underlying5
  go_enter Try.func8, Try.ntmps8
  go_wp2_with fail
  refine (new_any _ [97, 10, 98] _ (by decide) (rd_lit w [97, 10, 98] _ _ 3 rfl)).mono ?_
  rintro e w1 ⟨b, vo, rfl, hB, hb1⟩
  have HB : Hid (BufAt w1 _ b vo (.slice none 0 0) [97, 10, 98] []) := hB
  have L1 : Below w.heap.size w w1 := (bAlloc (Below.refl _ _) _).trans (hb1.mono (by simp))
  clear hb1 hB
  go_wp2_with fail
  refine (add_any _ b vo _ [97, 10, 98] [] _ [99, 100] _ (HB.out.alloc _) (by decide) (rd_lit w1 [99, 100] _ _ 2 rfl)).mono ?_
  rintro e w2 ⟨va, rfl, hB2, ht, -⟩
  have lo := HB.out.lo
  simp at lo
  have L2 : Below w.heap.size w w2 := touch_below (bAlloc L1 _) ht (by have := L1.size; simp; omega) (by omega) (fun k hk => by simp [Value.ownBlock] at hk)
  have HB2 : Hid (BufAt w2 _ b vo va [97, 10, 98] [99, 100]) := hB2
  clear hB2 ht HB L1 lo
  go_wp2_with fail
  refine (read_yes (some ⟨b, 0, none⟩) 1 1 1 [97, 10, 98] [99, 100] _ _ (by decide) (by decide) (by decide) (.inr ⟨b, vo, va, rfl, HB2.out.alloc _⟩)).mono ?_
  rintro e w3 ⟨ap, cp, rfl, hown, hb3⟩
  have S3 := (SpanAt.new w2 1 0 2).keep hb3
  have L3 := L2.trans (((bAlloc (Below.refl _ _) _).trans (hb3.mono (by simp))).mono L2.size)
  have HB3 : Hid (BufAt w3 _ b vo va [97, 10, 98] [99, 100]) := (HB2.out.alloc _).keep hb3
  have R3 : Hid (Rd w3 (.slice ap 1 cp) [100]) := own_rd (l := [100]) hown
  clear hb3 HB2 L2 hown
  obtain ⟨sz, s0, s1, s2, -⟩ := id S3
  go_wp2_with fail
  refine (read_yes (some ⟨b, 0, none⟩) 0 0 3 [97, 10, 98] [99, 100] _ _ (by decide) (by decide) (by decide) (.inr ⟨b, vo, va, rfl, HB3.out⟩)).mono ?_
  rintro e w4 ⟨aq, cq, rfl, hown, hb4⟩
  have S4 := S3.keep hb4
  have L4 := L3.trans (hb4.mono L3.size)
  have V4 := conv_rd (R3.out.keep hb4)
  have U4 := conv_rd (own_rd (l := [97, 10, 98]) hown)
  clear hb4 HB3 L3 hown sz s0 s1 s2 S3
  obtain ⟨sz, s0, s1, s2, -⟩ := id S4
  go_wp2
  go_ret
  exact ⟨rfl, L4⟩
end Go.Proofs.Ytfjfflkdcmpgnaa
