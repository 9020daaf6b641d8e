/- The contract of (*Buffer).Lines, for every buffer, the nil one too, and every span. -/
import Derived.Test.YtpifjghhlcjedaaAbRead
namespace Go.Proofs.Ytpifjghhlcjedaa.Ab
open Go.RowKit

/-- How many line ends. -/
def nl (l : List UInt8) : Nat := l.countP (· == 10)
theorem nl_le (l : List UInt8) : nl l ≤ l.length := List.countP_le_length
theorem nl_take (l : List UInt8) (k : Nat) (h : k < l.length) : nl (l.take (k + 1)) = nl (l.take k) + if ((l[k].toNat : Int) == 10) = true then 1 else 0 := by
  unfold nl
  rw [List.take_succ_eq_append_getElem h, List.countP_append, List.countP_singleton]
  have e : (l[k] == 10) = ((l[k].toNat : Int) == 10) := by
    rw [Bool.eq_iff_iff]
    simp only [beq_iff_eq]
    constructor
    · intro h; rw [h]; rfl
    · intro h
      apply UInt8.toNat_inj.1
      have : (10 : UInt8).toNat = 10 := rfl
      omega
  rw [e]

theorem ret_int {k : IntKind} {a b : Int} (h : a = b) : Ending.returned (.int k a) = .returned (.int k b) := by rw [h]
theorem ret_two {a b c : Int} (h : a = b) : Ending.returned (.tuple #[.int .i64 a, .int .i64 c]) = .returned (.tuple #[.int .i64 b, .int .i64 c]) := by rw [h]

set_option maxHeartbeats 400000 in
theorem lines_no (p : Option Addr) (s o l : Int) (O A : List UInt8) (base : Nat) (w : World) (h1 : -9223372036854775808 ≤ l) (h2 : l ≤ 9223372036854775807) (hd : hdB s o l O A = false) (h : Hid (Bf w base p O A)) :
    Calls Try.prog 98 #[.pointer p, .agg #[.int .i64 s, .int .i64 o, .int .i64 l]] w fun e w' => e = .returned (.tuple #[.int .i64 0, .int .i64 10]) ∧ Below w.heap.size w w' := by
  go_enter Try.func98, Try.ntmps98
  go_wp2_with fail
  refine (holds_any p s o l O A base _ h1 h2 (h.out.alloc _)).mono ?_
  rintro e w1 ⟨rfl, hb⟩
  go_wp2
  go_ret2
  exact ⟨rfl, (bAlloc (Below.refl _ _) _).trans (hb.mono (by simp))⟩

set_option maxHeartbeats 800000 in
theorem lines_yes (p : Option Addr) (s : Int) (o l : Nat) (O A : List UInt8) (base : Nat) (w : World) (hs : sndB s o l = true) (hh : o + l ≤ (which s O A).length) (h : Hid (Bf w base p O A)) :
    Calls Try.prog 98 #[.pointer p, .agg #[.int .i64 s, .int .i64 o, .int .i64 l]] w fun e w' => e = .returned (.tuple #[.int .i64 (nl (cutL s o l O A) : Int), .int .i64 0]) ∧ Below w.heap.size w w' := by
  have hd := hd_true hs hh
  have bd := snd_bd hs
  have HC : Hid ((cutL s o l O A).length = l) := cutL_length hh
  go_enter Try.func98, Try.ntmps98
  go_wp2_with fail
  refine (holds_any p s o l O A base _ (by omega) (by omega) (h.out.alloc _)).mono ?_
  rintro e w1 ⟨rfl, hb⟩
  have B1 : Hid (Bf w1 base p O A) := (h.out.alloc _).keep hb
  have S1 := (SpanAt.new w s o l).keep hb
  have L1 : Below w.heap.size w w1 := (bAlloc (Below.refl _ _) _).trans (hb.mono (by simp))
  clear hb h
  obtain ⟨az, a0, a1, a2, -⟩ := id S1
  go_wp2_with fail
  refine (held_any p s o l O A base _ hh B1).mono ?_
  rintro e w2 ⟨ao, k, rfl, hr, hb⟩
  have L2 := L1.trans (hb.mono L1.size)
  clear hb az a0 a1 a2 S1 B1 L1
  have HR : Hid (RdB w2 (.slice ao l k) (cutL s o l O A)) := hr
  clear hr hh hd hs
  obtain ⟨C, HE⟩ : ∃ C, Hid (cutL s o l O A = C) := ⟨_, rfl⟩
  rw [HE.out] at HR HC
  rcases HR.out with ⟨hv, hn⟩ | ⟨g, off, c, hv, hcell⟩
  · have hl : l = 0 := by have := HC.out; rw [hn] at this; simp at this; omega
    subst hl
    have HZ : Hid (nl (cutL s o 0 O A) = 0) := by unfold Hid; have he : cutL s o 0 O A = C := HE.out; rw [he, hn]; rfl
    clear HR HC hv hn HE
    go_wp2
    go_loop [6, 17] (fun n i => n = .int .i64 0 ∧ i = .int .i64 0) (fun _ _ => 0)
    case atStart => exact ⟨rfl, rfl⟩
    case round =>
      obtain ⟨rfl, rfl⟩ := hrel
      go_wp2
      go_ret2
      exact ⟨ret_two (by rw [HZ.out]; rfl), L2⟩
  · have hv2 : ao = some ⟨g, off, none⟩ ∧ k = c := by simp at hv; exact ⟨hv.1, hv.2.2⟩
    obtain ⟨rfl, rfl⟩ := hv2
    have hl : C.length = l := HC.out
    subst hl
    have HX : Hid (∀ j u, (bv C)[j]? = some u → w2.cell? ⟨g, off + j, none⟩ = some u) := hcell
    clear hcell HR HC hv
    go_wp2
    go_loop [6, 17] (fun n i => ∃ j : Nat, j ≤ C.length ∧ i = .int .i64 j ∧ n = .int .i64 (nl (C.take j))) (fun _ i => C.length - (intOf i).toNat)
    case atStart => exact ⟨0, Nat.zero_le _, rfl, rfl⟩
    case round =>
      obtain ⟨j, hj, rfl, rfl⟩ := hrel
      have hb := nl_le (C.take j)
      have hb2 : (C.take j).length ≤ j := List.length_take_le _ _
      by_cases hlt : j < C.length
      · have hc := HX.out j _ (bv_at C j hlt)
        have HS : Hid (nl (C.take (j + 1)) = nl (C.take j) + if ((C[j].toNat : Int) == 10) = true then 1 else 0) := nl_take C j hlt
        cases h10 : ((C[j].toNat : Int) == 10) with
        | true =>
          have HT : Hid (nl (C.take (j + 1)) = nl (C.take j) + 1) := by unfold Hid; rw [HS.out, h10]; rfl
          clear HS
          go_wp2
          go_round
          case rel => exact ⟨j + 1, by omega, by go_num, by rw [HT.out]; go_num⟩
          case measure => simp [intOf]; omega
        | false =>
          have HT : Hid (nl (C.take (j + 1)) = nl (C.take j)) := by unfold Hid; rw [HS.out, h10]; rfl
          clear HS
          go_wp2
          go_round
          case rel => exact ⟨j + 1, by omega, by go_num, by rw [HT.out]⟩
          case measure => simp [intOf]; omega
      · go_wp2
        go_ret2
        exact ⟨ret_two (by rw [HE.out, List.take_of_length_le (by omega)]), L2⟩
end Go.Proofs.Ytpifjghhlcjedaa.Ab
