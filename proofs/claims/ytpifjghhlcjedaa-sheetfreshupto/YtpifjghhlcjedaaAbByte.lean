/- The contracts of (*Buffer).Byte and (*Buffer).LineAt, for every buffer, the nil one too, every span and every number. -/
import Derived.Test.YtpifjghhlcjedaaAbLines
namespace Go.Proofs.Ytpifjghhlcjedaa.Ab
open Go.RowKit

theorem nl_mono (C : List UInt8) {i j : Nat} (h : i ≤ j) : nl (C.take i) ≤ nl (C.take j) := by
  unfold nl
  have e : C.take i = (C.take j).take i := by rw [List.take_take, Nat.min_eq_left h]
  rw [e]
  exact List.Sublist.countP_le (List.take_sublist _ _)
theorem nl_step (C : List UInt8) {i j : Nat} (hi : i < C.length) (h : i < j) (h10 : ((C[i].toNat : Int) == 10) = true) : nl (C.take i) + 1 ≤ nl (C.take j) := by
  have h1 := nl_take C i hi
  rw [h10] at h1
  have h2 := nl_mono C (show i + 1 ≤ j from h)
  simp at h1
  omega

/-- byte number i -/
def at8 (l : List UInt8) (i : Nat) : UInt8 := l.getD i 0
theorem at8_eq {l : List UInt8} {i : Nat} (h : i < l.length) : at8 l i = l[i] := by simp [at8, h]

theorem cnt_true {C : List UInt8} {j m n : Nat} (hlt : j < C.length) (h10 : ((C[j].toNat : Int) == 10) = true) (hm : 1 ≤ m) (h : m + nl (C.take j) = n) : m - 1 + nl (C.take (j + 1)) = n := by
  have h1 := nl_take C j hlt
  rw [if_pos h10] at h1
  omega
theorem cnt_false {C : List UInt8} {j m n : Nat} (hlt : j < C.length) (h10 : ((C[j].toNat : Int) == 10) = false) (h : m + nl (C.take j) = n) : m + nl (C.take (j + 1)) = n := by
  have h1 := nl_take C j hlt
  rw [if_neg (by rw [h10]; exact Bool.false_ne_true)] at h1
  omega
theorem ret_byte {a b c : Int} (h : a = b) : Ending.returned (.tuple #[.int .u8 a, .int .i64 c]) = .returned (.tuple #[.int .u8 b, .int .i64 c]) := by rw [h]

set_option maxHeartbeats 400000 in
theorem byte_no (p : Option Addr) (s o l i : Int) (O A : List UInt8) (base : Nat) (w : World) (h1 : -9223372036854775808 ≤ l) (h2 : l ≤ 9223372036854775807) (hd : hdB s o l O A = false) (h : Hid (Bf w base p O A)) :
    Calls Try.prog 87 #[.pointer p, .agg #[.int .i64 s, .int .i64 o, .int .i64 l], .int .i64 i] w fun e w' => e = .returned (.tuple #[.int .u8 0, .int .i64 10]) ∧ Below w.heap.size w w' := by
  go_enter Try.func87, Try.ntmps87
  go_wp2_with fail
  refine (holds_any p s o l O A base _ h1 h2 (h.out.alloc _)).mono ?_
  rintro e w1 ⟨rfl, hb⟩
  go_wp2
  go_ret2
  exact ⟨rfl, (bAlloc (Below.refl _ _) _).trans (hb.mono (by simp))⟩

set_option maxHeartbeats 400000 in
theorem byte_low (p : Option Addr) (s o l i : Int) (O A : List UInt8) (base : Nat) (w : World) (h1 : -9223372036854775808 ≤ l) (h2 : l ≤ 9223372036854775807) (hd : hdB s o l O A = true) (hi : i < 0) (h : Hid (Bf w base p O A)) :
    Calls Try.prog 87 #[.pointer p, .agg #[.int .i64 s, .int .i64 o, .int .i64 l], .int .i64 i] w fun e w' => e = .returned (.tuple #[.int .u8 0, .int .i64 2]) ∧ Below w.heap.size w w' := by
  go_enter Try.func87, Try.ntmps87
  go_wp2_with fail
  refine (holds_any p s o l O A base _ h1 h2 (h.out.alloc _)).mono ?_
  rintro e w1 ⟨rfl, hb⟩
  go_wp2
  go_ret2
  exact ⟨rfl, (bAlloc (Below.refl _ _) _).trans (hb.mono (by simp))⟩

set_option maxHeartbeats 400000 in
theorem byte_high (p : Option Addr) (s o l i : Int) (O A : List UInt8) (base : Nat) (w : World) (h1 : -9223372036854775808 ≤ l) (h2 : l ≤ 9223372036854775807) (hd : hdB s o l O A = true) (hi : 0 ≤ i) (hl : l ≤ i) (h : Hid (Bf w base p O A)) :
    Calls Try.prog 87 #[.pointer p, .agg #[.int .i64 s, .int .i64 o, .int .i64 l], .int .i64 i] w fun e w' => e = .returned (.tuple #[.int .u8 0, .int .i64 2]) ∧ Below w.heap.size w w' := by
  go_enter Try.func87, Try.ntmps87
  go_wp2_with fail
  refine (holds_any p s o l O A base _ h1 h2 (h.out.alloc _)).mono ?_
  rintro e w1 ⟨rfl, hb⟩
  have S1 := (SpanAt.new w s o l).keep hb
  have L1 : Below w.heap.size w w1 := (bAlloc (Below.refl _ _) _).trans (hb.mono (by simp))
  clear hb h
  obtain ⟨az, a0, a1, a2, -⟩ := id S1
  go_wp2
  go_ret2
  exact ⟨rfl, L1⟩

set_option maxHeartbeats 800000 in
theorem byte_yes (p : Option Addr) (s : Int) (o l i : Nat) (O A : List UInt8) (base : Nat) (w : World) (hs : sndB s o l = true) (hh : o + l ≤ (which s O A).length) (hi : i < l) (h : Hid (Bf w base p O A)) :
    Calls Try.prog 87 #[.pointer p, .agg #[.int .i64 s, .int .i64 o, .int .i64 l], .int .i64 i] w fun e w' => e = .returned (.tuple #[.int .u8 ((at8 (cutL s o l O A) i).toNat : Int), .int .i64 0]) ∧ Below w.heap.size w w' := by
  have hd := hd_true hs hh
  have bd := snd_bd hs
  have HC : Hid ((cutL s o l O A).length = l) := cutL_length hh
  have hi0 : (0 : Int) ≤ (i : Int) := by omega
  have hi1 : (i : Int) < (l : Int) := by omega
  go_enter Try.func87, Try.ntmps87
  go_wp2_with fail
  refine (holds_any p s o l O A base _ (by omega) (by omega) (h.out.alloc _)).mono ?_
  rintro e w1 ⟨rfl, hb⟩
  have B1 : Hid (Bf w1 base p O A) := (h.out.alloc _).keep hb
  have S1 := (SpanAt.new w s o l).keep hb
  have L1 : Below w.heap.size w w1 := (bAlloc (Below.refl _ _) _).trans (hb.mono (by simp))
  clear hb h
  obtain ⟨az, a0, a1, a2, -⟩ := id S1
  go_wp2_with fail
  refine (held_any p s o l O A base _ hh B1).mono ?_
  rintro e w2 ⟨ao, k, rfl, hr, hb⟩
  have L2 := L1.trans (hb.mono L1.size)
  clear hb az a0 a1 a2 S1 B1 L1
  have HR : Hid (RdB w2 (.slice ao l k) (cutL s o l O A)) := hr
  clear hr hh hd hs
  obtain ⟨C, HE⟩ : ∃ C, Hid (cutL s o l O A = C) := ⟨_, rfl⟩
  rw [HE.out] at HR HC
  rcases HR.out with ⟨hv, hn⟩ | ⟨g, off, c, hv, hcell⟩
  · exfalso
    have := HC.out
    rw [hn] at this
    simp at this
    omega
  · have hv2 : ao = some ⟨g, off, none⟩ ∧ k = c := by simp at hv; exact ⟨hv.1, hv.2.2⟩
    obtain ⟨rfl, rfl⟩ := hv2
    have hl : C.length = l := HC.out
    have hc := hcell i _ (bv_at C i (by omega))
    have HF : Hid ((C[i]'(by omega)).toNat = (at8 (cutL s o l O A) i).toNat) := by
      unfold Hid
      rw [HE.out]
      rw [at8_eq]
    have hw : (C[i]'(by omega)).toNat < 256 := (C[i]'(by omega)).toNat_lt
    clear hcell HR HC hv HE
    generalize (C[i]'(by omega)).toNat = x at *
    clear hl
    go_wp2
    go_ret2
    exact ⟨ret_byte (by rw [HF.out]), L2⟩

set_option maxHeartbeats 400000 in
theorem lineAt_no (p : Option Addr) (s o l n : Int) (O A : List UInt8) (base : Nat) (w : World) (h1 : -9223372036854775808 ≤ l) (h2 : l ≤ 9223372036854775807) (hd : hdB s o l O A = false) (h : Hid (Bf w base p O A)) :
    Calls Try.prog 85 #[.pointer p, .agg #[.int .i64 s, .int .i64 o, .int .i64 l], .int .i64 n] w fun e w' => e = .returned (.tuple #[.int .i64 0, .int .i64 10]) ∧ Below w.heap.size w w' := by
  go_enter Try.func85, Try.ntmps85
  go_wp2_with fail
  refine (holds_any p s o l O A base _ h1 h2 (h.out.alloc _)).mono ?_
  rintro e w1 ⟨rfl, hb⟩
  go_wp2
  go_ret2
  exact ⟨rfl, (bAlloc (Below.refl _ _) _).trans (hb.mono (by simp))⟩

set_option maxHeartbeats 400000 in
theorem lineAt_low (p : Option Addr) (s o l n : Int) (O A : List UInt8) (base : Nat) (w : World) (h1 : -9223372036854775808 ≤ l) (h2 : l ≤ 9223372036854775807) (hd : hdB s o l O A = true) (hn : n < 0) (h : Hid (Bf w base p O A)) :
    Calls Try.prog 85 #[.pointer p, .agg #[.int .i64 s, .int .i64 o, .int .i64 l], .int .i64 n] w fun e w' => e = .returned (.tuple #[.int .i64 0, .int .i64 2]) ∧ Below w.heap.size w w' := by
  go_enter Try.func85, Try.ntmps85
  go_wp2_with fail
  refine (holds_any p s o l O A base _ h1 h2 (h.out.alloc _)).mono ?_
  rintro e w1 ⟨rfl, hb⟩
  go_wp2
  go_ret2
  exact ⟨rfl, (bAlloc (Below.refl _ _) _).trans (hb.mono (by simp))⟩

set_option maxHeartbeats 1000000 in
theorem lineAt_high (p : Option Addr) (s : Int) (o l n : Nat)  (O A : List UInt8) (base : Nat) (w : World) (hs : sndB s o l = true) (hh : o + l ≤ (which s O A).length) (hn63 : n ≤ 9223372036854775807) (HN : Hid (nl (cutL s o l O A) ≤ n)) (h : Hid (Bf w base p O A)) :
    Calls Try.prog 85 #[.pointer p, .agg #[.int .i64 s, .int .i64 o, .int .i64 l], .int .i64 n] w fun e w' => e = .returned (.tuple #[.int .i64 0, .int .i64 2]) ∧ Below w.heap.size w w' := by
  have hd := hd_true hs hh
  have bd := snd_bd hs
  have HC : Hid ((cutL s o l O A).length = l) := cutL_length hh
  have hn0 : (0 : Int) ≤ (n : Int) := by omega
  go_enter Try.func85, Try.ntmps85
  go_wp2_with fail
  refine (holds_any p s o l O A base _ (by omega) (by omega) (h.out.alloc _)).mono ?_
  rintro e w1 ⟨rfl, hb⟩
  have B1 : Hid (Bf w1 base p O A) := (h.out.alloc _).keep hb
  have S1 := (SpanAt.new w s o l).keep hb
  have L1 : Below w.heap.size w w1 := (bAlloc (Below.refl _ _) _).trans (hb.mono (by simp))
  clear hb h
  obtain ⟨az, a0, a1, a2, -⟩ := id S1
  go_wp2_with fail
  refine (held_any p s o l O A base _ hh B1).mono ?_
  rintro e w2 ⟨ao, k, rfl, hr, hb⟩
  have L2 := L1.trans (hb.mono L1.size)
  clear hb az a0 a1 a2 S1 B1 L1
  have HR : Hid (RdB w2 (.slice ao l k) (cutL s o l O A)) := hr
  clear hr hh hd hs
  obtain ⟨C, HE⟩ : ∃ C, Hid (cutL s o l O A = C) := ⟨_, rfl⟩
  rw [HE.out] at HR HC HN
  rcases HR.out with ⟨hv, hn⟩ | ⟨g, off, c, hv, hcell⟩
  · have hl : l = 0 := by have := HC.out; rw [hn] at this; simp at this; omega
    subst hl
    clear HR HC hv hn HE HN
    go_wp2
    go_loop [8, 22] (fun x i => x = .int .i64 n ∧ i = .int .i64 0) (fun _ _ => 0)
    case atStart => exact ⟨rfl, rfl⟩
    case round =>
      obtain ⟨rfl, rfl⟩ := hrel
      go_wp2
      go_ret2
      exact ⟨rfl, L2⟩
  · have hv2 : ao = some ⟨g, off, none⟩ ∧ k = c := by simp at hv; exact ⟨hv.1, hv.2.2⟩
    obtain ⟨rfl, rfl⟩ := hv2
    have hl : C.length = l := HC.out
    subst hl
    have HX : Hid (∀ j u, (bv C)[j]? = some u → w2.cell? ⟨g, off + j, none⟩ = some u) := hcell
    clear hcell HR HC hv HE
    go_wp2
    go_loop [8, 22] (fun x i => ∃ j m : Nat, j ≤ C.length ∧ i = .int .i64 j ∧ x = .int .i64 m ∧ Hid (m + nl (C.take j) = n)) (fun _ i => C.length - (intOf i).toNat)
    case atStart => exact ⟨0, n, Nat.zero_le _, rfl, rfl, rfl⟩
    case round =>
      obtain ⟨j, m, hj, rfl, rfl, HM⟩ := hrel
      by_cases hlt : j < C.length
      · have hc := HX.out j _ (bv_at C j hlt)
        have hm63 : m ≤ 9223372036854775807 := by have := HM.out; omega
        cases h10 : ((C[j].toNat : Int) == 10) with
        | true =>
          have hm : 1 ≤ m := by have h1 := nl_step C hlt hlt h10; have h2 := HM.out; have h3 := HN.out; rw [List.take_length] at h1; omega
          have HT : Hid (m - 1 + nl (C.take (j + 1)) = n) := cnt_true hlt h10 hm HM.out
          have hne : (((C[j].toNat : Int)) != 10) = false := by simp only [bne, h10]; rfl
          clear HM
          go_wp2
          go_round
          case rel => exact ⟨j + 1, m - 1, by omega, by go_num, by go_num, HT⟩
          case measure => simp [intOf]; omega
        | false =>
          have HT : Hid (m + nl (C.take (j + 1)) = n) := cnt_false hlt h10 HM.out
          have hne : (((C[j].toNat : Int)) != 10) = true := by simp only [bne, h10]; rfl
          clear HM
          go_wp2
          go_round
          case rel => exact ⟨j + 1, m, by omega, by go_num, rfl, HT⟩
          case measure => simp [intOf]; omega
      · go_wp2
        go_ret2
        exact ⟨rfl, L2⟩

set_option maxHeartbeats 1000000 in
theorem lineAt_yes (p : Option Addr) (s : Int) (o l n : Nat) (q : Nat) (O A : List UInt8) (base : Nat) (w : World) (hs : sndB s o l = true) (hh : o + l ≤ (which s O A).length) (hn63 : n ≤ 9223372036854775807) (HN : Hid (∃ hq : q < (cutL s o l O A).length, (((cutL s o l O A)[q].toNat : Int) == 10) = true ∧ nl ((cutL s o l O A).take q) = n)) (h : Hid (Bf w base p O A)) :
    Calls Try.prog 85 #[.pointer p, .agg #[.int .i64 s, .int .i64 o, .int .i64 l], .int .i64 n] w fun e w' => e = .returned (.tuple #[.int .i64 (q : Int), .int .i64 0]) ∧ Below w.heap.size w w' := by
  have hd := hd_true hs hh
  have bd := snd_bd hs
  have HC : Hid ((cutL s o l O A).length = l) := cutL_length hh
  have hn0 : (0 : Int) ≤ (n : Int) := by omega
  go_enter Try.func85, Try.ntmps85
  go_wp2_with fail
  refine (holds_any p s o l O A base _ (by omega) (by omega) (h.out.alloc _)).mono ?_
  rintro e w1 ⟨rfl, hb⟩
  have B1 : Hid (Bf w1 base p O A) := (h.out.alloc _).keep hb
  have S1 := (SpanAt.new w s o l).keep hb
  have L1 : Below w.heap.size w w1 := (bAlloc (Below.refl _ _) _).trans (hb.mono (by simp))
  clear hb h
  obtain ⟨az, a0, a1, a2, -⟩ := id S1
  go_wp2_with fail
  refine (held_any p s o l O A base _ hh B1).mono ?_
  rintro e w2 ⟨ao, k, rfl, hr, hb⟩
  have L2 := L1.trans (hb.mono L1.size)
  clear hb az a0 a1 a2 S1 B1 L1
  have HR : Hid (RdB w2 (.slice ao l k) (cutL s o l O A)) := hr
  clear hr hh hd hs
  obtain ⟨C, HE⟩ : ∃ C, Hid (cutL s o l O A = C) := ⟨_, rfl⟩
  rw [HE.out] at HR HC
  have HQ : Hid (∃ hq : q < C.length, ((C[q].toNat : Int) == 10) = true ∧ nl (C.take q) = n) := by have := HN.out; unfold Hid; simpa only [HE.out] using this
  clear HN
  rcases HR.out with ⟨hv, hn⟩ | ⟨g, off, c, hv, hcell⟩
  · have hl : l = 0 := by have := HC.out; rw [hn] at this; simp at this; omega
    exfalso
    obtain ⟨hq, _⟩ := HQ.out
    rw [hn] at hq
    simp at hq
  · have hv2 : ao = some ⟨g, off, none⟩ ∧ k = c := by simp at hv; exact ⟨hv.1, hv.2.2⟩
    obtain ⟨rfl, rfl⟩ := hv2
    have hl : C.length = l := HC.out
    subst hl
    have HX : Hid (∀ j u, (bv C)[j]? = some u → w2.cell? ⟨g, off + j, none⟩ = some u) := hcell
    clear hcell HR HC hv HE
    go_wp2
    go_loop [8, 22] (fun x i => ∃ j m : Nat, j ≤ q ∧ i = .int .i64 j ∧ x = .int .i64 m ∧ Hid (m + nl (C.take j) = n)) (fun _ i => C.length - (intOf i).toNat)
    case atStart => exact ⟨0, n, Nat.zero_le _, rfl, rfl, rfl⟩
    case round =>
      obtain ⟨j, m, hj, rfl, rfl, HM⟩ := hrel
      obtain ⟨hq, hq10, hqn⟩ := HQ.out
      have hlt : j < C.length := by omega
      have hc := HX.out j _ (bv_at C j hlt)
      have hm63 : m ≤ 9223372036854775807 := by have := HM.out; omega
      by_cases hjq : j = q
      · subst hjq
        have hm : m = 0 := by have := HM.out; omega
        subst hm
        have hne : (((C[j].toNat : Int)) != 10) = false := by simp only [bne, hq10]; rfl
        clear HM hqn hq10
        go_wp2
        go_ret2
        exact ⟨rfl, L2⟩
      · have hjl : j < q := by omega
        cases h10 : ((C[j].toNat : Int) == 10) with
        | true =>
          have hm : 1 ≤ m := by have h1 := nl_step C hlt hjl h10; have h2 := HM.out; omega
          have HT : Hid (m - 1 + nl (C.take (j + 1)) = n) := cnt_true hlt h10 hm HM.out
          have hne : (((C[j].toNat : Int)) != 10) = false := by simp only [bne, h10]; rfl
          clear HM hqn hq10
          go_wp2
          go_round
          case rel => exact ⟨j + 1, m - 1, by omega, by go_num, by go_num, HT⟩
          case measure => simp [intOf]; omega
        | false =>
          have HT : Hid (m + nl (C.take (j + 1)) = n) := cnt_false hlt h10 HM.out
          have hne : (((C[j].toNat : Int)) != 10) = true := by simp only [bne, h10]; rfl
          clear HM hqn hq10
          go_wp2
          go_round
          case rel => exact ⟨j + 1, m, by omega, by go_num, rfl, HT⟩
          case measure => simp [intOf]; omega
end Go.Proofs.Ytpifjghhlcjedaa.Ab
