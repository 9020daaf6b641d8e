/- The contract of (*Buffer).Read, for every buffer, the nil one too, and every span. -/
import Derived.Test.YtpifjghhlcjedaaAbHeld
namespace Go.Proofs.Ytpifjghhlcjedaa.Ab
open Go.RowKit

theorem own_lower {w : World} {base base' e size n : Nat} {v : Value} {xs : List Value} (h : w.ownsRow base e size v n xs) (hb : base' ≤ base) : w.ownsRow base' e size v n xs := by
  refine ⟨h.1, ?_⟩
  rcases h.2 with h2 | ⟨g, cap, cur, h1, h2, h3⟩
  · exact .inl h2
  · exact .inr ⟨g, cap, cur, h1, by omega, h3⟩

theorem cutL_length {s : Int} {o l : Nat} {O A : List UInt8} (h : o + l ≤ (which s O A).length) : (cutL s o l O A).length = l := by
  unfold cutL; simp; omega

theorem hd_parts {s o l : Int} {O A : List UInt8} (h : hdB s o l O A = true) : ∃ o' l' : Nat, o = o' ∧ l = l' ∧ sndB s o' l' = true ∧ o' + l' ≤ (which s O A).length ∧ o' + l' ≤ 4611686018427387904 := by
  unfold hdB at h
  simp only [Bool.and_eq_true, decide_eq_true_eq] at h
  obtain ⟨h1, h2⟩ := h
  have b := snd_bd h1
  obtain ⟨o', rfl⟩ := Int.eq_ofNat_of_zero_le b.1
  obtain ⟨l', rfl⟩ := Int.eq_ofNat_of_zero_le b.2.1
  exact ⟨o', l', rfl, rfl, h1, by omega, by omega⟩

theorem hd_true {s : Int} {o l : Nat} {O A : List UInt8} (h1 : sndB s o l = true) (h2 : o + l ≤ (which s O A).length) : hdB s o l O A = true := by
  unfold hdB; simp only [Bool.and_eq_true, decide_eq_true_eq]; exact ⟨h1, by omega⟩

set_option maxHeartbeats 400000 in
theorem read_no (p : Option Addr) (s o l : Int) (O A : List UInt8) (base : Nat) (w : World) (h1 : -9223372036854775808 ≤ l) (h2 : l ≤ 9223372036854775807) (hd : hdB s o l O A = false) (h : Hid (Bf w base p O A)) :
    Calls Try.prog 100 #[.pointer p, .agg #[.int .i64 s, .int .i64 o, .int .i64 l]] w fun e w' => e = .returned (.tuple #[.slice none 0 0, .int .i64 10]) ∧ Below w.heap.size w w' := by
  go_enter Try.func100, Try.ntmps100
  go_wp2_with fail
  refine (holds_any p s o l O A base _ h1 h2 (h.out.alloc _)).mono ?_
  rintro e w1 ⟨rfl, hb⟩
  go_wp2
  go_ret2
  exact ⟨rfl, (bAlloc (Below.refl _ _) _).trans (hb.mono (by simp))⟩

set_option maxHeartbeats 400000 in
theorem read_yes (p : Option Addr) (s : Int) (o l : Nat) (O A : List UInt8) (base : Nat) (w : World) (hs : sndB s o l = true) (hh : o + l ≤ (which s O A).length) (hbig : l ≤ 140737488355328) (h : Hid (Bf w base p O A)) :
    Calls Try.prog 100 #[.pointer p, .agg #[.int .i64 s, .int .i64 o, .int .i64 l]] w fun e w' => ∃ ao c, e = .returned (.tuple #[.slice ao l c, .int .i64 0]) ∧ w'.ownsRow w.heap.size 5 1 (.slice ao l c) l (bv (cutL s o l O A)) ∧ Below w.heap.size w w' := by
  have hd := hd_true hs hh
  have bd := snd_bd hs
  have hc := cutL_length hh
  have HC : Hid ((cutL s o l O A).length = l) := hc
  clear hc
  go_enter Try.func100, Try.ntmps100
  go_wp2_with fail
  refine (holds_any p s o l O A base _ (by omega) (by omega) (h.out.alloc _)).mono ?_
  rintro e w1 ⟨rfl, hb⟩
  have B1 : Hid (Bf w1 base p O A) := (h.out.alloc _).keep hb
  have S1 := (SpanAt.new w s o l).keep hb
  have L1 : Below w.heap.size w w1 := (bAlloc (Below.refl _ _) _).trans (hb.mono (by simp))
  clear hb
  obtain ⟨az, a0, a1, a2, -⟩ := id S1
  go_wp2_with fail
  refine (held_any p s o l O A base _ hh B1).mono ?_
  rintro e w2 ⟨ao, k, rfl, hr, hb⟩
  have L2 := L1.trans (hb.mono L1.size)
  clear hb az a0 a1 a2 S1 B1
  have HR : Hid (Rd w2 (.slice ao l k) (cutL s o l O A)) := hr.rd
  clear hr
  go_wp2_with fail
  refine (clone_any _ (cutL s o l O A) _ (by rw [HC.out]; exact hbig) HR.out).mono ?_
  rw [HC.out]
  rintro e w3 ⟨ao', c, rfl, hown, hb⟩
  have L3 := L2.trans (hb.mono L2.size)
  have HW : Hid (w3.ownsRow w2.heap.size 5 1 (.slice ao' l c) l (bv (cutL s o l O A))) := hown
  have hz := L2.size
  clear hown hb
  go_wp2
  go_ret2
  refine ⟨_, _, rfl, ?_, L3⟩
  exact own_lower HW.out hz
end Go.Proofs.Ytpifjghhlcjedaa.Ab
