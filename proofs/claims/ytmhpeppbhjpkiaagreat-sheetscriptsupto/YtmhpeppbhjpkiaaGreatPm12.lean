/- The contracts of (*Buffer).Byte and (*Buffer).LineAt, for every buffer, the nil one too, every span and every number. -/
import Derived.Test.YtmhpeppbhjpkiaaGreatPm09
import Derived.Test.YtmhpeppbhjpkiaaGreatPm10
import Derived.Test.YtmhpeppbhjpkiaaGreatPm11
namespace Go.Proofs.YtmhpeppbhjpkiaaGreat.Ab
open Go.RowKit

theorem nl_mono (C : List UInt8) {i j : Nat} (h : i ≤ j) : nl (C.take i) ≤ nl (C.take j) := by
  unfold nl
  have e : C.take i = (C.take j).take i := by rw [List.take_take, Nat.min_eq_left h]
  rw [e]
  exact List.Sublist.countP_le (List.take_sublist _ _)
theorem nl_step (C : List UInt8) {i j : Nat} (hi : i < C.length) (h : i < j) (h10 : ((C[i].toNat : Int) == 10) = true) : nl (C.take i) + 1 ≤ nl (C.take j) := by
  have h1 := nl_take C i hi
  rw [h10] at h1
  have h2 := nl_mono C (show i + 1 ≤ j from h)
  simp at h1
  omega

/-- byte number i -/
def at8 (l : List UInt8) (i : Nat) : UInt8 := l.getD i 0
theorem at8_eq {l : List UInt8} {i : Nat} (h : i < l.length) : at8 l i = l[i] := by simp [at8, h]

theorem cnt_true {C : List UInt8} {j m n : Nat} (hlt : j < C.length) (h10 : ((C[j].toNat : Int) == 10) = true) (hm : 1 ≤ m) (h : m + nl (C.take j) = n) : m - 1 + nl (C.take (j + 1)) = n := by
  have h1 := nl_take C j hlt
  rw [if_pos h10] at h1
  omega
theorem cnt_false {C : List UInt8} {j m n : Nat} (hlt : j < C.length) (h10 : ((C[j].toNat : Int) == 10) = false) (h : m + nl (C.take j) = n) : m + nl (C.take (j + 1)) = n := by
  have h1 := nl_take C j hlt
  rw [if_neg (by rw [h10]; exact Bool.false_ne_true)] at h1
  omega
theorem ret_byte {a b c : Int} (h : a = b) : Ending.returned (.tuple #[.int .u8 a, .int .i64 c]) = .returned (.tuple #[.int .u8 b, .int .i64 c]) := by rw [h]

set_option maxHeartbeats 400000 in
theorem byte_no (p : Option Addr) (s o l i : Int) (O A : List UInt8) (base : Nat) (w : World) (h1 : -9223372036854775808 ≤ l) (h2 : l ≤ 9223372036854775807) (hd : hdB s o l O A = false) (h : Hid (Bf w base p O A)) :
    Calls Tryz.prog 61 #[.pointer p, .agg #[.int .i64 s, .int .i64 o, .int .i64 l], .int .i64 i] w fun e w' => e = .returned (.tuple #[.int .u8 0, .int .i64 10]) ∧ Below w.heap.size w w' := by
  go_enter Tryz.func61, Tryz.ntmps61
  go_wp2_with fail
  refine (holds_any p s o l O A base _ h1 h2 (h.out.alloc _)).mono ?_
  rintro e w1 ⟨rfl, hb⟩
  go_wp2
  go_ret2
  exact ⟨rfl, (bAlloc (Below.refl _ _) _).trans (hb.mono (by simp))⟩

set_option maxHeartbeats 400000 in
theorem byte_low (p : Option Addr) (s o l i : Int) (O A : List UInt8) (base : Nat) (w : World) (h1 : -9223372036854775808 ≤ l) (h2 : l ≤ 9223372036854775807) (hd : hdB s o l O A = true) (hi : i < 0) (h : Hid (Bf w base p O A)) :
    Calls Tryz.prog 61 #[.pointer p, .agg #[.int .i64 s, .int .i64 o, .int .i64 l], .int .i64 i] w fun e w' => e = .returned (.tuple #[.int .u8 0, .int .i64 2]) ∧ Below w.heap.size w w' := by
  go_enter Tryz.func61, Tryz.ntmps61
  go_wp2_with fail
  refine (holds_any p s o l O A base _ h1 h2 (h.out.alloc _)).mono ?_
  rintro e w1 ⟨rfl, hb⟩
  go_wp2
  go_ret2
  exact ⟨rfl, (bAlloc (Below.refl _ _) _).trans (hb.mono (by simp))⟩

set_option maxHeartbeats 400000 in
theorem byte_high (p : Option Addr) (s o l i : Int) (O A : List UInt8) (base : Nat) (w : World) (h1 : -9223372036854775808 ≤ l) (h2 : l ≤ 9223372036854775807) (hd : hdB s o l O A = true) (hi : 0 ≤ i) (hl : l ≤ i) (h : Hid (Bf w base p O A)) :
    Calls Tryz.prog 61 #[.pointer p, .agg #[.int .i64 s, .int .i64 o, .int .i64 l], .int .i64 i] w fun e w' => e = .returned (.tuple #[.int .u8 0, .int .i64 2]) ∧ Below w.heap.size w w' := by
  go_enter Tryz.func61, Tryz.ntmps61
  go_wp2_with fail
  refine (holds_any p s o l O A base _ h1 h2 (h.out.alloc _)).mono ?_
  rintro e w1 ⟨rfl, hb⟩
  have S1 := (SpanAt.new w s o l).keep hb
  have L1 : Below w.heap.size w w1 := (bAlloc (Below.refl _ _) _).trans (hb.mono (by simp))
  clear hb h
  obtain ⟨az, a0, a1, a2, -⟩ := id S1
  go_wp2
  go_ret2
  exact ⟨rfl, L1⟩

set_option maxHeartbeats 800000 in
theorem byte_yes (p : Option Addr) (s : Int) (o l i : Nat) (O A : List UInt8) (base : Nat) (w : World) (hs : sndB s o l = true) (hh : o + l ≤ (which s O A).length) (hi : i < l) (h : Hid (Bf w base p O A)) :
    Calls Tryz.prog 61 #[.pointer p, .agg #[.int .i64 s, .int .i64 o, .int .i64 l], .int .i64 i] w fun e w' => e = .returned (.tuple #[.int .u8 ((at8 (cutL s o l O A) i).toNat : Int), .int .i64 0]) ∧ Below w.heap.size w w' := by
  have hd := hd_true hs hh
  have bd := snd_bd hs
  have HC : Hid ((cutL s o l O A).length = l) := cutL_length hh
  have hi0 : (0 : Int) ≤ (i : Int) := by omega
  have hi1 : (i : Int) < (l : Int) := by omega
  go_enter Tryz.func61, Tryz.ntmps61
  go_wp2_with fail
  refine (holds_any p s o l O A base _ (by omega) (by omega) (h.out.alloc _)).mono ?_
  rintro e w1 ⟨rfl, hb⟩
  have B1 : Hid (Bf w1 base p O A) := (h.out.alloc _).keep hb
  have S1 := (SpanAt.new w s o l).keep hb
  have L1 : Below w.heap.size w w1 := (bAlloc (Below.refl _ _) _).trans (hb.mono (by simp))
  clear hb h
  obtain ⟨az, a0, a1, a2, -⟩ := id S1
  go_wp2_with fail
  refine (held_any p s o l O A base _ hh B1).mono ?_
  rintro e w2 ⟨ao, k, rfl, hr, hb⟩
  have L2 := L1.trans (hb.mono L1.size)
  clear hb az a0 a1 a2 S1 B1 L1
  have HR : Hid (RdB w2 (.slice ao l k) (cutL s o l O A)) := hr
  clear hr hh hd hs
  obtain ⟨C, HE⟩ : ∃ C, Hid (cutL s o l O A = C) := ⟨_, rfl⟩
  rw [HE.out] at HR HC
  rcases HR.out with ⟨hv, hn⟩ | ⟨g, off, c, hv, hcell⟩
  · exfalso
    have := HC.out
    rw [hn] at this
    simp at this
    omega
  · have hv2 : ao = some ⟨g, off, none⟩ ∧ k = c := by simp at hv; exact ⟨hv.1, hv.2.2⟩
    obtain ⟨rfl, rfl⟩ := hv2
    have hl : C.length = l := HC.out
    have hc := hcell i _ (bv_at C i (by omega))
    have HF : Hid ((C[i]'(by omega)).toNat = (at8 (cutL s o l O A) i).toNat) := by
      unfold Hid
      rw [HE.out]
      rw [at8_eq]
    have hw : (C[i]'(by omega)).toNat < 256 := (C[i]'(by omega)).toNat_lt
    clear hcell HR HC hv HE
    generalize (C[i]'(by omega)).toNat = x at *
    clear hl
    go_wp2
    go_ret2
    exact ⟨ret_byte (by rw [HF.out]), L2⟩

set_option maxHeartbeats 400000 in
theorem lineAt_no (p : Option Addr) (s o l n : Int) (O A : List UInt8) (base : Nat) (w : World) (h1 : -9223372036854775808 ≤ l) (h2 : l ≤ 9223372036854775807) (hd : hdB s o l O A = false) (h : Hid (Bf w base p O A)) :
    Calls Tryz.prog 64 #[.pointer p, .agg #[.int .i64 s, .int .i64 o, .int .i64 l], .int .i64 n] w fun e w' => e = .returned (.tuple #[.int .i64 0, .int .i64 10]) ∧ Below w.heap.size w w' := by
  go_enter Tryz.func64, Tryz.ntmps64
  go_wp2_with fail
  refine (holds_any p s o l O A base _ h1 h2 (h.out.alloc _)).mono ?_
  rintro e w1 ⟨rfl, hb⟩
  go_wp2
  go_ret2
  exact ⟨rfl, (bAlloc (Below.refl _ _) _).trans (hb.mono (by simp))⟩

set_option maxHeartbeats 400000 in
theorem lineAt_low (p : Option Addr) (s o l n : Int) (O A : List UInt8) (base : Nat) (w : World) (h1 : -9223372036854775808 ≤ l) (h2 : l ≤ 9223372036854775807) (hd : hdB s o l O A = true) (hn : n < 0) (h : Hid (Bf w base p O A)) :
    Calls Tryz.prog 64 #[.pointer p, .agg #[.int .i64 s, .int .i64 o, .int .i64 l], .int .i64 n] w fun e w' => e = .returned (.tuple #[.int .i64 0, .int .i64 2]) ∧ Below w.heap.size w w' := by
  go_enter Tryz.func64, Tryz.ntmps64
  go_wp2_with fail
  refine (holds_any p s o l O A base _ h1 h2 (h.out.alloc _)).mono ?_
  rintro e w1 ⟨rfl, hb⟩
  go_wp2
  go_ret2
  exact ⟨rfl, (bAlloc (Below.refl _ _) _).trans (hb.mono (by simp))⟩

set_option maxHeartbeats 1000000 in
theorem lineAt_high (p : Option Addr) (s : Int) (o l n : Nat)  (O A : List UInt8) (base : Nat) (w : World) (hs : sndB s o l = true) (hh : o + l ≤ (which s O A).length) (hn63 : n ≤ 9223372036854775807) (HN : Hid (nl (cutL s o l O A) ≤ n)) (h : Hid (Bf w base p O A)) :
    Calls Tryz.prog 64 #[.pointer p, .agg #[.int .i64 s, .int .i64 o, .int .i64 l], .int .i64 n] w fun e w' => e = .returned (.tuple #[.int .i64 0, .int .i64 2]) ∧ Below w.heap.size w w' := by
  have hd := hd_true hs hh
  have bd := snd_bd hs
  have HC : Hid ((cutL s o l O A).length = l) := cutL_length hh
  have hn0 : (0 : Int) ≤ (n : Int) := by omega
  go_enter Tryz.func64, Tryz.ntmps64
  go_wp2_with fail
  refine (holds_any p s o l O A base _ (by omega) (by omega) (h.out.alloc _)).mono ?_
  rintro e w1 ⟨rfl, hb⟩
  have B1 : Hid (Bf w1 base p O A) := (h.out.alloc _).keep hb
  have S1 := (SpanAt.new w s o l).keep hb
  have L1 : Below w.heap.size w w1 := (bAlloc (Below.refl _ _) _).trans (hb.mono (by simp))
  clear hb h
  obtain ⟨az, a0, a1, a2, -⟩ := id S1
  go_wp2_with fail
  refine (held_any p s o l O A base _ hh B1).mono ?_
  rintro e w2 ⟨ao, k, rfl, hr, hb⟩
  have L2 := L1.trans (hb.mono L1.size)
  clear hb az a0 a1 a2 S1 B1 L1
  have HR : Hid (RdB w2 (.slice ao l k) (cutL s o l O A)) := hr
  clear hr hh hd hs
  obtain ⟨C, HE⟩ : ∃ C, Hid (cutL s o l O A = C) := ⟨_, rfl⟩
  rw [HE.out] at HR HC HN
  rcases HR.out with ⟨hv, hn⟩ | ⟨g, off, c, hv, hcell⟩
  · have hl : l = 0 := by have := HC.out; rw [hn] at this; simp at this; omega
    subst hl
    clear HR HC hv hn HE HN
    go_wp2
    go_loop [8, 22] (fun x i => x = .int .i64 n ∧ i = .int .i64 0) (fun _ _ => 0)
    case atStart => exact ⟨rfl, rfl⟩
    case round =>
      obtain ⟨rfl, rfl⟩ := hrel
      go_wp2
      go_ret2
      exact ⟨rfl, L2⟩
  · have hv2 : ao = some ⟨g, off, none⟩ ∧ k = c := by simp at hv; exact ⟨hv.1, hv.2.2⟩
    obtain ⟨rfl, rfl⟩ := hv2
    have hl : C.length = l := HC.out
    subst hl
    have HX : Hid (∀ j u, (bv C)[j]? = some u → w2.cell? ⟨g, off + j, none⟩ = some u) := hcell
    clear hcell HR HC hv HE
    go_wp2
    go_loop [8, 22] (fun x i => ∃ j m : Nat, j ≤ C.length ∧ i = .int .i64 j ∧ x = .int .i64 m ∧ Hid (m + nl (C.take j) = n)) (fun _ i => C.length - (intOf i).toNat)
    case atStart => exact ⟨0, n, Nat.zero_le _, rfl, rfl, rfl⟩
    case round =>
      obtain ⟨j, m, hj, rfl, rfl, HM⟩ := hrel
      by_cases hlt : j < C.length
      · have hc := HX.out j _ (bv_at C j hlt)
        have hm63 : m ≤ 9223372036854775807 := by have := HM.out; omega
        cases h10 : ((C[j].toNat : Int) == 10) with
        | true =>
          have hm : 1 ≤ m := by have h1 := nl_step C hlt hlt h10; have h2 := HM.out; have h3 := HN.out; rw [List.take_length] at h1; omega
          have HT : Hid (m - 1 + nl (C.take (j + 1)) = n) := cnt_true hlt h10 hm HM.out
          have hne : (((C[j].toNat : Int)) != 10) = false := by simp only [bne, h10]; rfl
          clear HM
          go_wp2
          go_round
          case rel => exact ⟨j + 1, m - 1, by omega, by go_num, by go_num, HT⟩
          case measure => simp [intOf]; omega
        | false =>
          have HT : Hid (m + nl (C.take (j + 1)) = n) := cnt_false hlt h10 HM.out
          have hne : (((C[j].toNat : Int)) != 10) = true := by simp only [bne, h10]; rfl
          clear HM
          go_wp2
          go_round
          case rel => exact ⟨j + 1, m, by omega, by go_num, rfl, HT⟩
          case measure => simp [intOf]; omega
      · go_wp2
        go_ret2
        exact ⟨rfl, L2⟩

set_option maxHeartbeats 1000000 in
theorem lineAt_yes (p : Option Addr) (s : Int) (o l n : Nat) (q : Nat) (O A : List UInt8) (base : Nat) (w : World) (hs : sndB s o l = true) (hh : o + l ≤ (which s O A).length) (hn63 : n ≤ 9223372036854775807) (HN : Hid (∃ hq : q < (cutL s o l O A).length, (((cutL s o l O A)[q].toNat : Int) == 10) = true ∧ nl ((cutL s o l O A).take q) = n)) (h : Hid (Bf w base p O A)) :
    Calls Tryz.prog 64 #[.pointer p, .agg #[.int .i64 s, .int .i64 o, .int .i64 l], .int .i64 n] w fun e w' => e = .returned (.tuple #[.int .i64 (q : Int), .int .i64 0]) ∧ Below w.heap.size w w' := by
  have hd := hd_true hs hh
  have bd := snd_bd hs
  have HC : Hid ((cutL s o l O A).length = l) := cutL_length hh
  have hn0 : (0 : Int) ≤ (n : Int) := by omega
  go_enter Tryz.func64, Tryz.ntmps64
  go_wp2_with fail
  refine (holds_any p s o l O A base _ (by omega) (by omega) (h.out.alloc _)).mono ?_
  rintro e w1 ⟨rfl, hb⟩
  have B1 : Hid (Bf w1 base p O A) := (h.out.alloc _).keep hb
  have S1 := (SpanAt.new w s o l).keep hb
  have L1 : Below w.heap.size w w1 := (bAlloc (Below.refl _ _) _).trans (hb.mono (by simp))
  clear hb h
  obtain ⟨az, a0, a1, a2, -⟩ := id S1
  go_wp2_with fail
  refine (held_any p s o l O A base _ hh B1).mono ?_
  rintro e w2 ⟨ao, k, rfl, hr, hb⟩
  have L2 := L1.trans (hb.mono L1.size)
  clear hb az a0 a1 a2 S1 B1 L1
  have HR : Hid (RdB w2 (.slice ao l k) (cutL s o l O A)) := hr
  clear hr hh hd hs
  obtain ⟨C, HE⟩ : ∃ C, Hid (cutL s o l O A = C) := ⟨_, rfl⟩
  rw [HE.out] at HR HC
  have HQ : Hid (∃ hq : q < C.length, ((C[q].toNat : Int) == 10) = true ∧ nl (C.take q) = n) := by have := HN.out; unfold Hid; simpa only [HE.out] using this
  clear HN
  rcases HR.out with ⟨hv, hn⟩ | ⟨g, off, c, hv, hcell⟩
  · have hl : l = 0 := by have := HC.out; rw [hn] at this; simp at this; omega
    exfalso
    obtain ⟨hq, _⟩ := HQ.out
    rw [hn] at hq
    simp at hq
  · have hv2 : ao = some ⟨g, off, none⟩ ∧ k = c := by simp at hv; exact ⟨hv.1, hv.2.2⟩
    obtain ⟨rfl, rfl⟩ := hv2
    have hl : C.length = l := HC.out
    subst hl
    have HX : Hid (∀ j u, (bv C)[j]? = some u → w2.cell? ⟨g, off + j, none⟩ = some u) := hcell
    clear hcell HR HC hv HE
    go_wp2
    go_loop [8, 22] (fun x i => ∃ j m : Nat, j ≤ q ∧ i = .int .i64 j ∧ x = .int .i64 m ∧ Hid (m + nl (C.take j) = n)) (fun _ i => C.length - (intOf i).toNat)
    case atStart => exact ⟨0, n, Nat.zero_le _, rfl, rfl, rfl⟩
    case round =>
      obtain ⟨j, m, hj, rfl, rfl, HM⟩ := hrel
      obtain ⟨hq, hq10, hqn⟩ := HQ.out
      have hlt : j < C.length := by omega
      have hc := HX.out j _ (bv_at C j hlt)
      have hm63 : m ≤ 9223372036854775807 := by have := HM.out; omega
      by_cases hjq : j = q
      · subst hjq
        have hm : m = 0 := by have := HM.out; omega
        subst hm
        have hne : (((C[j].toNat : Int)) != 10) = false := by simp only [bne, hq10]; rfl
        clear HM hqn hq10
        go_wp2
        go_ret2
        exact ⟨rfl, L2⟩
      · have hjl : j < q := by omega
        cases h10 : ((C[j].toNat : Int) == 10) with
        | true =>
          have hm : 1 ≤ m := by have h1 := nl_step C hlt hjl h10; have h2 := HM.out; omega
          have HT : Hid (m - 1 + nl (C.take (j + 1)) = n) := cnt_true hlt h10 hm HM.out
          have hne : (((C[j].toNat : Int)) != 10) = false := by simp only [bne, h10]; rfl
          clear HM hqn hq10
          go_wp2
          go_round
          case rel => exact ⟨j + 1, m - 1, by omega, by go_num, by go_num, HT⟩
          case measure => simp [intOf]; omega
        | false =>
          have HT : Hid (m + nl (C.take (j + 1)) = n) := cnt_false hlt h10 HM.out
          have hne : (((C[j].toNat : Int)) != 10) = true := by simp only [bne, h10]; rfl
          clear HM hqn hq10
          go_wp2
          go_round
          case rel => exact ⟨j + 1, m, by omega, by go_num, rfl, HT⟩
          case measure => simp [intOf]; omega
end Go.Proofs.YtmhpeppbhjpkiaaGreat.Ab

/- The text that pieces spell over a buffer's two lists of bytes: cutting and joining pieces keeps it. -/
namespace Go.Proofs.YtmhpeppbhjpkiaaGreat
open Go.RowKit

/-- The bytes of a piece. -/
def pcs (O A : List UInt8) (p : Pc) : List UInt8 := Ab.cutL p.s p.o p.l O A
/-- The bytes of pieces in a row. -/
def txt (O A : List UInt8) (L : List Pc) : List UInt8 := L.flatMap (pcs O A)

/-- A good piece: fit, held by the buffer, its line ends counted. -/
structure Gd (O A : List UInt8) (p : Pc) : Prop where
  fit : p.fit
  hold : Ab.hdB p.s p.o p.l O A = true
  ln : p.n = (Ab.nl (pcs O A p) : Int)
def Gds (O A : List UInt8) (L : List Pc) : Prop := ∀ p ∈ L, Gd O A p

theorem txt_nil (O A : List UInt8) : txt O A [] = [] := rfl
theorem txt_cons (O A : List UInt8) (p : Pc) (L : List Pc) : txt O A (p :: L) = pcs O A p ++ txt O A L := by simp [txt]
theorem txt_append (O A : List UInt8) (L M : List Pc) : txt O A (L ++ M) = txt O A L ++ txt O A M := by simp [txt]
theorem Gds.nil (O A : List UInt8) : Gds O A [] := fun _ h => by cases h
theorem Gds.cons {O A : List UInt8} {p : Pc} {L : List Pc} (h : Gd O A p) (k : Gds O A L) : Gds O A (p :: L) := fun q hq => by
  rcases List.mem_cons.1 hq with rfl | hq
  · exact h
  · exact k q hq
theorem Gds.append {O A : List UInt8} {L M : List Pc} (h : Gds O A L) (k : Gds O A M) : Gds O A (L ++ M) := fun q hq => by
  rcases List.mem_append.1 hq with hq | hq
  · exact h q hq
  · exact k q hq
theorem Gds.take {O A : List UInt8} {L : List Pc} (h : Gds O A L) (k : Nat) : Gds O A (L.take k) := fun q hq => h q (List.mem_of_mem_take hq)
theorem Gds.drop {O A : List UInt8} {L : List Pc} (h : Gds O A L) (k : Nat) : Gds O A (L.drop k) := fun q hq => h q (List.mem_of_mem_drop hq)
theorem Gds.at {O A : List UInt8} {L : List Pc} (h : Gds O A L) {k : Nat} {p : Pc} (hp : L[k]? = some p) : Gd O A p := h p (List.mem_of_getElem? hp)

theorem cutL_len {s o l : Int} {O A : List UInt8} (h : Ab.hdB s o l O A = true) : ((Ab.cutL s o l O A).length : Int) = l := by
  obtain ⟨o', l', rfl, rfl, _, h2, _⟩ := Ab.hd_parts h
  rw [Ab.cutL_length h2]
theorem Gd.len {O A : List UInt8} {p : Pc} (h : Gd O A p) : ((pcs O A p).length : Int) = p.l := cutL_len h.hold
theorem Gd.pos {O A : List UInt8} {p : Pc} (h : Gd O A p) : 1 ≤ p.l := h.fit.1

theorem txt_len {O A : List UInt8} : ∀ {L : List Pc}, Gds O A L → ((txt O A L).length : Int) = sB L
  | [], _ => rfl
  | p :: L, h => by
    rw [txt_cons, sB_cons, List.length_append]
    have h1 := (h p (by simp)).len
    have h2 := txt_len (L := L) (fun q hq => h q (by simp [hq]))
    push_cast
    omega
theorem nl_append (a b : List UInt8) : Ab.nl (a ++ b) = Ab.nl a + Ab.nl b := by simp [Ab.nl]
theorem txt_nl {O A : List UInt8} : ∀ {L : List Pc}, Gds O A L → ((Ab.nl (txt O A L) : Nat) : Int) = sL L
  | [], _ => rfl
  | p :: L, h => by
    rw [txt_cons, nl_append]
    have h1 := (h p (by simp)).ln
    have h2 := txt_nl (L := L) (fun q hq => h q (by simp [hq]))
    have e : sL (p :: L) = p.n + sL L := by simp [sL]
    rw [e]
    push_cast
    omega

/-- As many pieces as bytes at most. -/
theorem len_le_txt {O A : List UInt8} : ∀ {L : List Pc}, Gds O A L → L.length ≤ (txt O A L).length
  | [], _ => by simp
  | p :: L, h => by
    rw [txt_cons, List.length_append, List.length_cons]
    have h1 := (h p (by simp)).len
    have h3 := (h p (by simp)).pos
    have h2 := len_le_txt (L := L) (fun q hq => h q (by simp [hq]))
    omega
theorem Gds.fine {O A : List UInt8} {L : List Pc} (h : Gds O A L) (hz : (txt O A L).length ≤ 1048576) : fineL L := ⟨fun p hp => (h p hp).fit, by have := len_le_txt h; omega⟩

/-- More bytes added change nothing. -/
theorem which_app {s : Int} (O A B : List UInt8) {o l : Nat} (h : o + l ≤ (Ab.which s O A).length) : ((Ab.which s O (A ++ B)).drop o).take l = ((Ab.which s O A).drop o).take l ∧ o + l ≤ (Ab.which s O (A ++ B)).length := by
  unfold Ab.which at h ⊢
  by_cases h0 : s = 0
  · simp only [h0, if_true] at h ⊢
    exact ⟨trivial, h⟩
  · by_cases h1 : s = 1
    · subst h1
      simp only [show ¬ ((1 : Int) = 0) by decide, if_false, if_true] at h ⊢
      rw [List.drop_append_of_le_length (by omega), List.take_append_of_le_length (by rw [List.length_drop]; omega)]
      exact ⟨rfl, by simp; omega⟩
    · simp only [h0, h1, if_false] at h ⊢
      exact ⟨trivial, h⟩
theorem Gd.more {O A : List UInt8} {p : Pc} (h : Gd O A p) (B : List UInt8) : Gd O (A ++ B) p ∧ pcs O (A ++ B) p = pcs O A p := by
  obtain ⟨s, o, l, n⟩ := p
  have hh := h.hold
  obtain ⟨o', l', e1, e2, h1, h2, h3⟩ := Ab.hd_parts hh
  simp only at e1 e2
  subst e1 e2
  obtain ⟨g1, g2⟩ := which_app O A B h2
  have e : pcs O (A ++ B) ⟨s, o', l', n⟩ = pcs O A ⟨s, o', l', n⟩ := by simpa [pcs, Ab.cutL] using g1
  exact ⟨⟨h.fit, Ab.hd_true h1 g2, by rw [e]; exact h.ln⟩, e⟩
theorem Gds.more {O A : List UInt8} {L : List Pc} (h : Gds O A L) (B : List UInt8) : Gds O (A ++ B) L := fun p hp => ((h p hp).more B).1
theorem txt_more {O A : List UInt8} : ∀ {L : List Pc}, Gds O A L → ∀ (B : List UInt8), txt O (A ++ B) L = txt O A L
  | [], _, _ => rfl
  | p :: L, h, B => by rw [txt_cons, txt_cons, ((h p (by simp)).more B).2, txt_more (L := L) (fun q hq => h q (by simp [hq])) B]

/-- A piece cut in two. -/
def fstP (O A : List UInt8) (p : Pc) (i : Int) : Pc := ⟨p.s, p.o, i, (Ab.nl (Ab.cutL p.s p.o i O A) : Nat)⟩
def sndP (O A : List UInt8) (p : Pc) (i : Int) : Pc := ⟨p.s, p.o + i, p.l - i, p.n - (Ab.nl (Ab.cutL p.s p.o i O A) : Nat)⟩
theorem snd_true {s o l : Int} (h : (s = 0 ∨ s = 1) ∧ 0 ≤ o ∧ 0 ≤ l ∧ o + l ≤ 4611686018427387904) : Ab.sndB s o l = true := by simpa [Ab.sndB] using h
theorem snd_out {s o l : Int} (h : Ab.sndB s o l = true) : (s = 0 ∨ s = 1) ∧ 0 ≤ o ∧ 0 ≤ l ∧ o + l ≤ 4611686018427387904 := by simpa [Ab.sndB] using h
theorem cut_good {O A : List UInt8} {p : Pc} (h : Gd O A p) {i : Int} (h0 : 0 < i) (h1 : i < p.l) : Gd O A (fstP O A p i) ∧ Gd O A (sndP O A p i) ∧ pcs O A (fstP O A p i) ++ pcs O A (sndP O A p i) = pcs O A p ∧ Ab.hdB p.s p.o i O A = true ∧ pcs O A (fstP O A p i) = (pcs O A p).take i.toNat := by
  obtain ⟨s, o, l, n⟩ := p
  have hh := h.hold
  obtain ⟨o', l', e1, e2, k1, k2, k3⟩ := Ab.hd_parts hh
  simp only at e1 e2 h1
  subst e1 e2
  obtain ⟨i', rfl⟩ : ∃ i' : Nat, i = i' := ⟨i.toNat, by omega⟩
  have hi : i' < l' := by omega
  have k4 : o' + l' ≤ (Ab.which s O A).length := k2
  obtain ⟨q1, q2, q3, q4⟩ := snd_out k1
  have s1 : Ab.sndB s o' i' = true := snd_true ⟨q1, q2, by omega, by omega⟩
  have s2 : Ab.sndB s ((o' + i' : Nat) : Int) ((l' - i' : Nat) : Int) = true := snd_true ⟨q1, by omega, by omega, by omega⟩
  have e1 : ((o' : Int) + (i' : Int)) = ((o' + i' : Nat) : Int) := by push_cast; rfl
  have e2 : ((l' : Int) - (i' : Int)) = ((l' - i' : Nat) : Int) := by omega
  have f1 : pcs O A (fstP O A ⟨s, o', l', n⟩ i') = ((Ab.which s O A).drop o').take i' := by simp [pcs, fstP, Ab.cutL]
  have f2 : pcs O A (sndP O A ⟨s, o', l', n⟩ i') = ((Ab.which s O A).drop (o' + i')).take (l' - i') := by
    simp only [pcs, sndP, Ab.cutL, e1, e2, Int.toNat_natCast]
  have f3 : pcs O A ⟨s, o', l', n⟩ = ((Ab.which s O A).drop o').take l' := by simp [pcs, Ab.cutL]
  have f4 : ((Ab.which s O A).drop o').take i' ++ ((Ab.which s O A).drop (o' + i')).take (l' - i') = ((Ab.which s O A).drop o').take l' := by
    rw [← List.drop_drop]
    conv => rhs; rw [show l' = i' + (l' - i') by omega, List.take_add]
  have hf := h.fit
  simp only [Pc.fit] at hf
  have hn := h.ln
  rw [f3, ← f4, nl_append, ← f1] at hn
  simp only at hn
  have l1 : (pcs O A (fstP O A ⟨s, o', l', n⟩ i')).length = i' := by rw [f1, List.length_take, List.length_drop]; omega
  have l2 : (((Ab.which s O A).drop (o' + i')).take (l' - i')).length = l' - i' := by rw [List.length_take, List.length_drop]; omega
  have n1 := Ab.nl_le (pcs O A (fstP O A ⟨s, o', l', n⟩ i'))
  have n2 := Ab.nl_le (((Ab.which s O A).drop (o' + i')).take (l' - i'))
  refine ⟨⟨?_, Ab.hd_true s1 (show o' + i' ≤ (Ab.which s O A).length by omega), rfl⟩, ⟨?_, ?_, ?_⟩, by rw [f1, f2, f3, f4], Ab.hd_true s1 (by omega), ?_⟩
  · show (1 : Int) ≤ i' ∧ (i' : Int) ≤ 2147483647 ∧ (0 : Int) ≤ (Ab.nl (pcs O A (fstP O A ⟨s, o', l', n⟩ i')) : Nat) ∧ ((Ab.nl (pcs O A (fstP O A ⟨s, o', l', n⟩ i')) : Nat) : Int) ≤ i'
    omega
  · show (1 : Int) ≤ l' - i' ∧ (l' - i' : Int) ≤ 2147483647 ∧ (0 : Int) ≤ n - (Ab.nl (pcs O A (fstP O A ⟨s, o', l', n⟩ i')) : Nat) ∧ n - ((Ab.nl (pcs O A (fstP O A ⟨s, o', l', n⟩ i')) : Nat) : Int) ≤ l' - i'
    omega
  · show Ab.hdB s (o' + i') (l' - i') O A = true
    rw [e1, e2]
    exact Ab.hd_true s2 (by omega)
  · rw [f2]
    show n - (Ab.nl (pcs O A (fstP O A ⟨s, o', l', n⟩ i')) : Nat) = _
    omega
  · rw [f1, f3, List.take_take]
    congr 1
    simp
    omega

/-- Two pieces that join. -/
def bothP (p q : Pc) : Pc := ⟨p.s, p.o, p.l + q.l, p.n + q.n⟩
theorem both_good {O A : List UInt8} {p q : Pc} (hp : Gd O A p) (hq : Gd O A q) (hj : Ab.jnB p.s p.o p.l q.s q.o q.l = true) (hz : p.l + q.l ≤ 2147483647) : Gd O A (bothP p q) ∧ pcs O A (bothP p q) = pcs O A p ++ pcs O A q := by
  obtain ⟨s, o, l, n⟩ := p
  obtain ⟨s', o2, l2, n2⟩ := q
  obtain ⟨j1, j2, j3, j4⟩ := Ab.jn_parts hj
  simp only at j1 j2 j3 j4 hz
  subst j3
  obtain ⟨o', l', e1, e2, k1, k2, k3⟩ := Ab.hd_parts hp.hold
  obtain ⟨o2', l2', e3, e4, m1, m2, m3⟩ := Ab.hd_parts hq.hold
  simp only at e1 e2 e3 e4
  subst e1 e2 e3 e4
  have e5 : o2' = o' + l' := by omega
  subst e5
  have k4 : o' + l' + l2' ≤ (Ab.which s O A).length := m2
  have e6 : ((l' : Int) + (l2' : Int)) = ((l' + l2' : Nat) : Int) := by push_cast; rfl
  have e : pcs O A (bothP ⟨s, o', l', n⟩ ⟨s, (o' + l' : Nat), l2', n2⟩) = pcs O A ⟨s, o', l', n⟩ ++ pcs O A ⟨s, (o' + l' : Nat), l2', n2⟩ := by
    simp only [pcs, bothP, Ab.cutL, e6, Int.toNat_natCast]
    rw [← List.drop_drop, List.take_add]
  obtain ⟨q1, q2, q3, q4⟩ := snd_out k1
  obtain ⟨p1, p2, p3, p4⟩ := snd_out m1
  have hf := hp.fit
  have hg := hq.fit
  simp only [Pc.fit] at hf hg
  refine ⟨⟨?_, ?_, ?_⟩, e⟩
  · show (1 : Int) ≤ l' + l2' ∧ (l' + l2' : Int) ≤ 2147483647 ∧ 0 ≤ n + n2 ∧ n + n2 ≤ l' + l2'
    omega
  · show Ab.hdB s o' (l' + l2') O A = true
    rw [e6]
    exact Ab.hd_true (snd_true ⟨q1, q2, by omega, by push_cast at p4 ⊢; omega⟩) (by omega)
  · rw [e, nl_append]
    have a := hp.ln
    have b := hq.ln
    show n + n2 = _
    rw [Int.natCast_add, ← a, ← b]

end Go.Proofs.YtmhpeppbhjpkiaaGreat

/- A sheet's piece and cutPiece. -/
namespace Go.Proofs.YtmhpeppbhjpkiaaGreat
open Go.RowKit

/-- A sheet's block, and its buffer. -/
structure ShB (W : World) (base sb : Nat) (pb : Option Addr) (x y : Value) (O A : List UInt8) : Prop where
  here : W.heap[sb]? = some (.cells #[.pointer pb, x, y] 55 (0, 0))
  buf : Ab.Bf W base pb O A
theorem ShB.keep {W W' : World} {base sb : Nat} {pb : Option Addr} {x y : Value} {O A : List UInt8} (h : ShB W base sb pb x y O A) (hb : Below W.heap.size W W') : ShB W' base sb pb x y O A :=
  ⟨(hb.block sb (sh_lt h.here)).trans h.here, h.buf.keep hb⟩

theorem three_cells {W : World} {b : Nat} {x y z : Value} {t : TypeId} (h : W.heap[b]? = some (.cells #[x, y, z] t (0, 0))) : W.cell? ⟨b, 0, none⟩ = some x ∧ W.cell? ⟨b, 1, none⟩ = some y ∧ W.cell? ⟨b, 2, none⟩ = some z := by
  refine ⟨?_, ?_, ?_⟩ <;> simp [World.cell?, h]

theorem bset {n : Nat} {w W : World} (h : Below n w W) {b : Nat} (hb : n ≤ b) (i : Nat) (v : Value) : Below n w (W.setCell ⟨b, i, none⟩ v) := h.setCell (p := ⟨b, i, none⟩) hb v

set_option maxHeartbeats 1000000 in
theorem piece_yes (sb : Nat) (pb : Option Addr) (x y : Value) (O A : List UInt8) (base : Nat) (s : Int) (o l : Nat) (w : World) (hs : Ab.sndB s o l = true) (hh : o + l ≤ (Ab.which s O A).length) (h : Hid (ShB w base sb pb x y O A)) :
    Calls Tryz.prog 19 #[.pointer (some ⟨sb, 0, none⟩), .agg #[.int .i64 s, .int .i64 o, .int .i64 l]] w fun e w' => e = .returned (.agg #[.int .i64 s, .int .i64 o, .int .i64 l, .int .i64 (Ab.nl (Ab.cutL s o l O A) : Nat)]) ∧ Below w.heap.size w w' := by
  obtain ⟨k0, _, _, _, _, _⟩ := sh_cells ((bAA w (.cells #[.int .i64 s, .int .i64 o, .int .i64 l] 57) (.cells #[.int .i64 0, .int .i64 0, .int .i64 0, .int .i64 0] 59)).block sb (sh_lt h.out.here) |>.trans h.out.here)
  have g0 := (Below.heap_alloc (w.alloc (.cells #[.int .i64 s, .int .i64 o, .int .i64 l] 57)) (.cells #[.int .i64 0, .int .i64 0, .int .i64 0, .int .i64 0] 59) w.heap.size (by simp)).trans (World.alloc_heap_new w _)
  obtain ⟨k1, k2, k3⟩ := three_cells g0
  have g1 := alloc2_here w (.cells #[.int .i64 s, .int .i64 o, .int .i64 l] 57) (.cells #[.int .i64 0, .int .i64 0, .int .i64 0, .int .i64 0] 59)
  have G0 := hid g0
  have G1 := hid g1
  clear g0 g1
  go_enter Tryz.func19, Tryz.ntmps19
  go_wp2
  go_region_held3 (fun w' => w'.cell? ⟨sb, 0, none⟩ = some (.pointer pb) ∧ w'.cell? ⟨w.heap.size, 0, none⟩ = some (.int .i64 s) ∧ w'.cell? ⟨w.heap.size, 1, none⟩ = some (.int .i64 o) ∧ w'.cell? ⟨w.heap.size, 2, none⟩ = some (.int .i64 l)) (first | assumption | simp [*, go_sem])
    (first | (go_at_call 49; refine (Ab.lines_yes pb s o l O A base _ hs hh (h.out.buf.keep (bAA w _ _).drew)).mono ?_; rintro e w9 ⟨rfl, hb9⟩; have hbb := bD hb9; obtain ⟨m1, m2, m3⟩ := three_cells ((hbb.block _ (by simp; omega)).trans G0.out); have hN := (hbb.block _ (by simp)).trans G1.out; obtain ⟨n1, n2, n3, n4⟩ := four_cells hN; have n5 := free_all hN; obtain ⟨q0, _, _, _, _, _⟩ := sh_cells (((bAA w _ _).trans (hbb.mono (bAA w _ _).size)).block sb (sh_lt h.out.here) |>.trans h.out.here)))
  clear k0 k1 k2 k3
  go_wp2
  refine bodyPost_ret (v := .agg #[.int .i64 s, .int .i64 o, .int .i64 l, .int .i64 (Ab.nl (Ab.cutL s o l O A) : Nat)]) (by simp [results, Tryz.results19, go_sem, n1, n2, n3, n4]) rfl ⟨rfl, ?_⟩
  exact (((((bAA w _ _).trans (hbb.mono (bAA w _ _).size)).setCell (p := ⟨w.heap.size + 1, 0, none⟩) (by simp) _).setCell (p := ⟨w.heap.size + 1, 1, none⟩) (by simp) _).setCell (p := ⟨w.heap.size + 1, 2, none⟩) (by simp) _).setCell (p := ⟨w.heap.size + 1, 3, none⟩) (by simp) _

set_option maxHeartbeats 1000000 in
theorem cutPiece_yes (sb : Nat) (pb : Option Addr) (x y : Value) (O A : List UInt8) (base : Nat) (s : Int) (o l i : Nat) (k : Int) (w : World) (hs : Ab.sndB s o l = true) (hi : i ≤ l) (hh : o + l ≤ (Ab.which s O A).length) (h : Hid (ShB w base sb pb x y O A))
    (hk : 0 ≤ k ∧ k ≤ l) (hl : l ≤ 2147483647) :
    Calls Tryz.prog 66 #[.pointer (some ⟨sb, 0, none⟩), .agg #[.int .i64 s, .int .i64 o, .int .i64 l, .int .i64 k], .int .i64 i] w fun e w' =>
      e = .returned (.tuple #[.agg #[.int .i64 s, .int .i64 o, .int .i64 i, .int .i64 (Ab.nl (Ab.cutL s o i O A) : Nat)], .agg #[.int .i64 s, .int .i64 ((o : Int) + i), .int .i64 ((l : Int) - i), .int .i64 (k - (Ab.nl (Ab.cutL s o i O A) : Nat))]]) ∧ Below w.heap.size w w' := by
  have hb0 := bAAA w (.cells #[.int .i64 s, .int .i64 o, .int .i64 l, .int .i64 k] 59) (.cells #[.int .i64 0, .int .i64 0, .int .i64 0, .int .i64 0] 59) (.cells #[.int .i64 0, .int .i64 0, .int .i64 0, .int .i64 0] 59)
  obtain ⟨W0, hW0⟩ : ∃ W0, ((w.alloc (.cells #[.int .i64 s, .int .i64 o, .int .i64 l, .int .i64 k] 59)).alloc (.cells #[.int .i64 0, .int .i64 0, .int .i64 0, .int .i64 0] 59)).alloc (.cells #[.int .i64 0, .int .i64 0, .int .i64 0, .int .i64 0] 59) = W0 := ⟨_, rfl⟩
  have g0 : W0.heap[w.heap.size]? = some (.cells #[.int .i64 s, .int .i64 o, .int .i64 l, .int .i64 k] 59 (0, 0)) := by
    rw [← hW0]; exact ((Below.heap_alloc _ _ _ (by simp; omega)).trans (Below.heap_alloc _ _ _ (by simp))).trans (World.alloc_heap_new w _)
  have g1 : W0.heap[w.heap.size + 1]? = some (.cells #[.int .i64 0, .int .i64 0, .int .i64 0, .int .i64 0] 59 (0, 0)) := by
    rw [← hW0]; exact (Below.heap_alloc _ _ _ (by simp)).trans (alloc2_here w _ _)
  have g2 : W0.heap[w.heap.size + 1 + 1]? = some (.cells #[.int .i64 0, .int .i64 0, .int .i64 0, .int .i64 0] 59 (0, 0)) := by
    rw [← hW0]; exact alloc3_here w _ _ _
  rw [hW0] at hb0
  have H0 := hid hb0
  have G0 := hid g0
  have G1 := hid g1
  have G2 := hid g2
  clear hb0 g0 g1 g2
  obtain ⟨a0, a1, a2, a3⟩ := four_cells G0.out
  go_enter Tryz.func66, Tryz.ntmps66
  have hone : Ab.sndB s o i = true := by
    obtain ⟨q1, q2, q3, q4⟩ := snd_out hs
    exact snd_true ⟨q1, q2, by omega, by omega⟩
  go_wp2_with (first | (go_at_call 78; refine (Ab.cut_yes s o l i _ hs (by omega) (by omega)).mono ?_; rintro e w9 ⟨rfl, hb9⟩; have p0 := hid ((hb9.block _ (sh_lt G0.out)).trans G0.out); have p1 := hid ((hb9.block _ (sh_lt G1.out)).trans G1.out); have p2 := hid ((hb9.block _ (sh_lt G2.out)).trans G2.out); have hb10 := hid (H0.out.trans (hb9.mono H0.out.size)); clear a0 a1 a2 a3 hW0 hb9)
                     | (go_at_call 19; refine (piece_yes sb pb x y O A base s o i _ hone (by omega) (h.out.keep (bAlloc (bAlloc hb10.out _) _))).mono ?_; rintro e w8 ⟨rfl, hb8⟩; have r0 := (hb8.block _ (by have := sh_lt p0.out; simp; omega)).trans (((bAA w9 _ _).block _ (sh_lt p0.out)).trans p0.out); have r1 := (hb8.block _ (by have := sh_lt p1.out; simp; omega)).trans (((bAA w9 _ _).block _ (sh_lt p1.out)).trans p1.out); have r2 := (hb8.block _ (by have := sh_lt p2.out; simp; omega)).trans (((bAA w9 _ _).block _ (sh_lt p2.out)).trans p2.out); have r3 := (hb8.block _ (by simp)).trans (alloc2_here w9 _ _); have hb11 := hid ((bAlloc (bAlloc hb10.out _) _).trans (hb8.mono (bAlloc (bAlloc hb10.out _) _).size)); clear hb8; obtain ⟨c0, c1, c2, c3⟩ := four_cells r0; obtain ⟨d0, d1, d2, d3⟩ := four_cells r1; have d4 := free_all r1; obtain ⟨e0, e1, e2, e3⟩ := four_cells r2; have e4 := free_all r2; obtain ⟨f0, f1, f2⟩ := three_cells r3; have R0 := hid r0; have R1 := hid r1; have R2 := hid r2; have R3 := hid r3; have Q1 := hid p1; clear r0 r1 r2 r3))
  obtain ⟨s1, s2, s3⟩ := set_four R1.out (.int .i64 s) (.int .i64 o) (.int .i64 i) (.int .i64 (Ab.nl (Ab.cutL s o i O A) : Nat))
  have t0 := (s2 w.heap.size (by omega)).trans R0.out
  have t2 := (s2 (w.heap.size + 1 + 1) (by omega)).trans R2.out
  have t3 := (s2 (w9.heap.size + 1) (by have := sh_lt p1.out; omega)).trans R3.out
  have hb12 := hid (((((hb11.out.setCell (p := ⟨w.heap.size + 1, 0, none⟩) (by simp) (.int .i64 s)).setCell (p := ⟨w.heap.size + 1, 1, none⟩) (by simp) (.int .i64 o)).setCell (p := ⟨w.heap.size + 1, 2, none⟩) (by simp) (.int .i64 i)).setCell (p := ⟨w.heap.size + 1, 3, none⟩) (by simp) (.int .i64 (Ab.nl (Ab.cutL s o i O A) : Nat))))
  clear c0 c1 c2 c3 d0 d1 d2 d3 d4 e0 e1 e2 e3 e4 f0 f1 f2 s2 s3
  generalize ((((w8.setCell ⟨w.heap.size + 1, 0, none⟩ (.int .i64 s)).setCell ⟨w.heap.size + 1, 1, none⟩ (.int .i64 o)).setCell ⟨w.heap.size + 1, 2, none⟩ (.int .i64 i)).setCell ⟨w.heap.size + 1, 3, none⟩ (.int .i64 (Ab.nl (Ab.cutL s o i O A) : Nat))) = w7 at *
  obtain ⟨c0, c1, c2, c3⟩ := four_cells t0
  obtain ⟨d0, d1, d2, d3⟩ := four_cells s1
  have d4 := free_all s1
  obtain ⟨e0, e1, e2, e3⟩ := four_cells t2
  have e4 := free_all t2
  obtain ⟨f0, f1, f2⟩ := three_cells t3
  have S1 := hid s1
  have T2 := hid t2
  have hne1 : w9.heap.size ≠ w.heap.size := by have := sh_lt p1.out; omega
  have hne2 : w.heap.size ≠ w9.heap.size := hne1.symm
  have hne3 : w9.heap.size + 1 ≠ w.heap.size + 1 := by omega
  have hne4 : w.heap.size + 1 ≠ w9.heap.size + 1 := by omega
  clear s1 t0 t2 t3
  have hnl : (Ab.nl (Ab.cutL s o i O A) : Int) ≤ i := by
    have a := Ab.nl_le (Ab.cutL s o i O A)
    have b : (Ab.cutL s o i O A).length = i := Ab.cutL_length (by omega)
    omega
  go_region
  go_wp2
  refine bodyPost_ret (v := .tuple #[.agg #[.int .i64 s, .int .i64 o, .int .i64 i, .int .i64 (Ab.nl (Ab.cutL s o i O A) : Nat)], .agg #[.int .i64 s, .int .i64 ((o : Int) + i), .int .i64 ((l : Int) - i), .int .i64 (k - (Ab.nl (Ab.cutL s o i O A) : Nat))]]) (by simp [results, Tryz.results66, go_sem, d0, d1, d2, d3, e0, e1, e2, e3]) rfl ⟨rfl, ?_⟩
  refine Below.drew ?_
  have u1 : w.heap.size ≤ w.heap.size + 1 := by omega
  have u2 : w.heap.size ≤ w.heap.size + 1 + 1 := by omega
  exact bset (bset (bset (bset (bset (bset (bset (bset hb12.out u1 _ _) u1 _ _) u1 _ _) u1 _ _) u2 _ _) u2 _ _) u2 _ _) u2 _ _

end Go.Proofs.YtmhpeppbhjpkiaaGreat

