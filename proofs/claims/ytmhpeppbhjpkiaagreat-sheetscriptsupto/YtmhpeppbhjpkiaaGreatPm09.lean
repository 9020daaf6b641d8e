/- The contract of (*Buffer).held: the bytes of a span that the buffer holds. -/
import Derived.Test.YtmhpeppbhjpkiaaGreatPm08
import Derived.Maps.AppendAt
import Derived.Laws.AppendOwnNone
namespace Go.Proofs.YtmhpeppbhjpkiaaGreat.Ab
open Go.RowKit

/-- The bytes of a span. -/
def cutL (s o l : Int) (O A : List UInt8) : List UInt8 := ((which s O A).drop o.toNat).take l.toNat

set_option maxHeartbeats 400000 in
theorem source_val (p : Option Addr) (k : Int) (O A : List UInt8) (base : Nat) (w : World) (h : Bf w base p O A) :
    ∃ ao c, w.ownsRow base 5 1 (.slice ao (which k O A).length c) (which k O A).length (bv (which k O A)) ∧
      ∀ w1, Below w.heap.size w w1 → Calls Tryz.prog 115 #[.pointer p, .int .i64 k] w1 fun e w' => e = .returned (.slice ao (which k O A).length c) ∧ w' = w1 := by
  rcases h with ⟨rfl, rfl, rfl⟩ | ⟨b, vo, va, rfl, hB⟩
  · have e0 : which k [] [] = [] := by unfold which; split <;> (try split) <;> rfl
    rw [e0]
    refine ⟨none, 0, World.ownsRow_nil _ _ _ _, fun w1 _ => ?_⟩
    clear e0
    go_enter Tryz.func115, Tryz.ntmps115
    go_wp2
    go_ret
    exact ⟨rfl, rfl⟩
  · have o0 : Hid (w.ownsRow base 5 1 vo O.length (bv O)) := hB.orig
    have o1 : Hid (w.ownsRow base 5 1 va A.length (bv A)) := hB.added
    obtain ⟨a0, n0, rfl⟩ := own_shape o0.out
    obtain ⟨a1, n1, rfl⟩ := own_shape o1.out
    by_cases k0 : k = 0
    · subst k0
      have e0 : which 0 O A = O := by simp [which]
      rw [e0]
      refine ⟨a0, n0, o0.out, fun w1 hb => ?_⟩
      have c0 := (hB.keep hb).cell0
      clear e0 hB o0 o1 hb
      go_enter Tryz.func115, Tryz.ntmps115
      go_wp2
      go_ret
      exact ⟨rfl, rfl⟩
    · by_cases k1 : k = 1
      · subst k1
        have e0 : which 1 O A = A := by simp [which]
        rw [e0]
        refine ⟨a1, n1, o1.out, fun w1 hb => ?_⟩
        have c1 := (hB.keep hb).cell1
        clear e0 hB o0 o1 hb
        go_enter Tryz.func115, Tryz.ntmps115
        go_wp2
        go_ret
        exact ⟨rfl, rfl⟩
      · have e0 : which k O A = [] := by simp [which, k0, k1]
        rw [e0]
        refine ⟨none, 0, World.ownsRow_nil _ _ _ _, fun w1 hb => ?_⟩
        clear e0 hB o0 o1 hb
        go_enter Tryz.func115, Tryz.ntmps115
        go_wp2
        go_ret
        exact ⟨rfl, rfl⟩

theorem below_drewN (w : World) (n : Nat) : Below w.heap.size w (w.drewN n) := ⟨rfl, rfl, rfl, Nat.le_refl _, fun _ _ => rfl⟩

/-- A list whose bytes lie from offset o of block g on. -/
def RdB (W : World) (v : Value) (L : List UInt8) : Prop :=
  (v = .slice none 0 0 ∧ L = []) ∨ ∃ g o c, v = .slice (some ⟨g, o, none⟩) L.length c ∧ ∀ j u, (bv L)[j]? = some u → W.cell? ⟨g, o + j, none⟩ = some u

theorem RdB.rd {W : World} {v : Value} {L : List UInt8} (h : RdB W v L) : Rd W v L := by
  rcases h with h | ⟨g, o, c, rfl, h⟩
  · exact .inl h
  · refine .inr ⟨_, c, rfl, fun j u hu => ?_⟩
    have : (⟨g, o, none⟩ : Addr).add j = ⟨g, o + j, none⟩ := by unfold Addr.add; split <;> simp_all
    rw [this]; exact h j u hu

theorem rd_cut {W : World} {base g c o l k : Nat} {L : List UInt8} (h : W.ownsRow base 5 1 (.slice (some ⟨g, 0, none⟩) L.length c) L.length (bv L)) (hh : o + l ≤ L.length) :
    RdB W (.slice (some ⟨g, o, none⟩) l k) ((L.drop o).take l) := by
  have e : ((L.drop o).take l).length = l := by simp; omega
  refine .inr ⟨g, o, k, by rw [e], fun j u hu => ?_⟩
  have hj : j < l := by
    have := (List.getElem?_eq_some_iff.1 hu).1
    rw [bv_length, e] at this; exact this
  rw [h.cellAt (o + j) (by omega)]
  rw [← hu]
  simp [bv, hj]

theorem own_drewN {w : World} {base e size n : Nat} {v : Value} {xs : List Value} (h : w.ownsRow base e size v n xs) (m : Nat) : (w.drewN m).ownsRow base e size v n xs := own_keep h (below_drewN w m)

set_option maxHeartbeats 1000000 in
theorem held_any (p : Option Addr) (s : Int) (o l : Nat) (O A : List UInt8) (base : Nat) (w : World) (hh : o + l ≤ (which s O A).length) (h : Hid (Bf w base p O A)) :
    Calls Tryz.prog 85 #[.pointer p, .agg #[.int .i64 s, .int .i64 o, .int .i64 l]] w fun e w' => ∃ ao k, e = .returned (.slice ao l k) ∧ RdB w' (.slice ao l k) (cutL s o l O A) ∧ Below w.heap.size w w' := by
  obtain ⟨ao, c, hown, hcall⟩ := source_val p s O A base w h.out
  have hm := own_le hown
  unfold maxLen at hm
  have HO : Hid (w.ownsRow base 5 1 (.slice ao (which s O A).length c) (which s O A).length (bv (which s O A))) := hown
  have HC : Hid (∀ w1, Below w.heap.size w w1 → Calls Tryz.prog 115 #[.pointer p, .int .i64 s] w1 fun e w' => e = .returned (.slice ao (which s O A).length c) ∧ w' = w1) := hcall
  have HE : Hid (cutL s o l O A = ((which s O A).drop o).take l) := by unfold Hid cutL; simp
  clear hown hcall h
  generalize which s O A = L at *
  rcases HO.out.2 with ⟨hv, h0⟩ | ⟨g, cap, cur, hv, hg1, hg2, hg3, hg4, hg5, hg6⟩
  · have hv2 : ao = none ∧ c = 0 := by simp at hv; exact ⟨hv.1, hv.2.2⟩
    obtain ⟨rfl, rfl⟩ := hv2
    obtain rfl := List.eq_nil_of_length_eq_zero h0
    have ho : o = 0 := by simp at hh; omega
    have hl : l = 0 := by simp at hh; omega
    subst ho hl
    clear hv h0 hh hm
    go_enter Tryz.func85, Tryz.ntmps85
    go_wp2
    go_quiet ((go_at_call 115; exact Calls.quiet_of_same (HC.out _ ((bAlloc (Below.refl _ _) _).trans ((below_drewN _ _).mono (by simp))))))
    go_wp2
    go_ret
    exact ⟨none, 0, rfl, .inl ⟨rfl, by rw [HE.out]; rfl⟩, (bAlloc (Below.refl _ _) _).trans ((below_drewN _ _).mono (by simp))⟩
  · have hv2 : ao = some ⟨g, 0, none⟩ ∧ c = cap := by simpa using hv
    obtain ⟨rfl, rfl⟩ := hv2
    have hcap : (o : Int) + (l : Int) ≤ (c : Int) := by omega
    have hol : (o : Int) ≤ (o : Int) + (l : Int) := by omega
    clear hv hg1 hg2 hg5 hg6
    go_enter Tryz.func85, Tryz.ntmps85
    go_wp2
    go_quiet ((go_at_call 115; exact Calls.quiet_of_same (HC.out _ ((bAlloc (Below.refl _ _) _).trans ((below_drewN _ _).mono (by simp))))))
    go_wp2
    · go_ret
      have hl : l = 0 := by omega
      subst hl
      refine ⟨_, _, rfl, ?_, (bAlloc (Below.refl _ _) _).trans ((below_drewN _ _).mono (by simp))⟩
      rw [HE.out]
      have := rd_cut (k := 0) (own_drewN (HO.out.alloc (.cells #[.int .i64 s, .int .i64 o, .int .i64 (0 : Nat)] 57)) nq) (o := 0) (l := 0) (by omega)
      simpa using this
    · go_ret
      refine ⟨_, _, rfl, ?_, (bAlloc (Below.refl _ _) _).trans ((below_drewN _ _).mono (by simp))⟩
      rw [HE.out]
      exact rd_cut (own_drewN (HO.out.alloc _) nq) hh
end Go.Proofs.YtmhpeppbhjpkiaaGreat.Ab

/- The contract of (*Buffer).Read, for every buffer, the nil one too, and every span. -/
namespace Go.Proofs.YtmhpeppbhjpkiaaGreat.Ab
open Go.RowKit

theorem own_lower {w : World} {base base' e size n : Nat} {v : Value} {xs : List Value} (h : w.ownsRow base e size v n xs) (hb : base' ≤ base) : w.ownsRow base' e size v n xs := by
  refine ⟨h.1, ?_⟩
  rcases h.2 with h2 | ⟨g, cap, cur, h1, h2, h3⟩
  · exact .inl h2
  · exact .inr ⟨g, cap, cur, h1, by omega, h3⟩

theorem cutL_length {s : Int} {o l : Nat} {O A : List UInt8} (h : o + l ≤ (which s O A).length) : (cutL s o l O A).length = l := by
  unfold cutL; simp; omega

theorem hd_parts {s o l : Int} {O A : List UInt8} (h : hdB s o l O A = true) : ∃ o' l' : Nat, o = o' ∧ l = l' ∧ sndB s o' l' = true ∧ o' + l' ≤ (which s O A).length ∧ o' + l' ≤ 4611686018427387904 := by
  unfold hdB at h
  simp only [Bool.and_eq_true, decide_eq_true_eq] at h
  obtain ⟨h1, h2⟩ := h
  have b := snd_bd h1
  obtain ⟨o', rfl⟩ := Int.eq_ofNat_of_zero_le b.1
  obtain ⟨l', rfl⟩ := Int.eq_ofNat_of_zero_le b.2.1
  exact ⟨o', l', rfl, rfl, h1, by omega, by omega⟩

theorem hd_true {s : Int} {o l : Nat} {O A : List UInt8} (h1 : sndB s o l = true) (h2 : o + l ≤ (which s O A).length) : hdB s o l O A = true := by
  unfold hdB; simp only [Bool.and_eq_true, decide_eq_true_eq]; exact ⟨h1, by omega⟩

set_option maxHeartbeats 400000 in
theorem read_no (p : Option Addr) (s o l : Int) (O A : List UInt8) (base : Nat) (w : World) (h1 : -9223372036854775808 ≤ l) (h2 : l ≤ 9223372036854775807) (hd : hdB s o l O A = false) (h : Hid (Bf w base p O A)) :
    Calls Tryz.prog 79 #[.pointer p, .agg #[.int .i64 s, .int .i64 o, .int .i64 l]] w fun e w' => e = .returned (.tuple #[.slice none 0 0, .int .i64 10]) ∧ Below w.heap.size w w' := by
  go_enter Tryz.func79, Tryz.ntmps79
  go_wp2_with fail
  refine (holds_any p s o l O A base _ h1 h2 (h.out.alloc _)).mono ?_
  rintro e w1 ⟨rfl, hb⟩
  go_wp2
  go_ret2
  exact ⟨rfl, (bAlloc (Below.refl _ _) _).trans (hb.mono (by simp))⟩

set_option maxHeartbeats 400000 in
theorem read_yes (p : Option Addr) (s : Int) (o l : Nat) (O A : List UInt8) (base : Nat) (w : World) (hs : sndB s o l = true) (hh : o + l ≤ (which s O A).length) (hbig : l ≤ 140737488355328) (h : Hid (Bf w base p O A)) :
    Calls Tryz.prog 79 #[.pointer p, .agg #[.int .i64 s, .int .i64 o, .int .i64 l]] w fun e w' => ∃ ao c, e = .returned (.tuple #[.slice ao l c, .int .i64 0]) ∧ w'.ownsRow w.heap.size 5 1 (.slice ao l c) l (bv (cutL s o l O A)) ∧ Below w.heap.size w w' := by
  have hd := hd_true hs hh
  have bd := snd_bd hs
  have hc := cutL_length hh
  have HC : Hid ((cutL s o l O A).length = l) := hc
  clear hc
  go_enter Tryz.func79, Tryz.ntmps79
  go_wp2_with fail
  refine (holds_any p s o l O A base _ (by omega) (by omega) (h.out.alloc _)).mono ?_
  rintro e w1 ⟨rfl, hb⟩
  have B1 : Hid (Bf w1 base p O A) := (h.out.alloc _).keep hb
  have S1 := (SpanAt.new w s o l).keep hb
  have L1 : Below w.heap.size w w1 := (bAlloc (Below.refl _ _) _).trans (hb.mono (by simp))
  clear hb
  obtain ⟨az, a0, a1, a2, -⟩ := id S1
  go_wp2_with fail
  refine (held_any p s o l O A base _ hh B1).mono ?_
  rintro e w2 ⟨ao, k, rfl, hr, hb⟩
  have L2 := L1.trans (hb.mono L1.size)
  clear hb az a0 a1 a2 S1 B1
  have HR : Hid (Rd w2 (.slice ao l k) (cutL s o l O A)) := hr.rd
  clear hr
  go_wp2_with fail
  refine (clone_any _ (cutL s o l O A) _ (by rw [HC.out]; exact hbig) HR.out).mono ?_
  rw [HC.out]
  rintro e w3 ⟨ao', c, rfl, hown, hb⟩
  have L3 := L2.trans (hb.mono L2.size)
  have HW : Hid (w3.ownsRow w2.heap.size 5 1 (.slice ao' l c) l (bv (cutL s o l O A))) := hown
  have hz := L2.size
  clear hown hb
  go_wp2
  go_ret2
  refine ⟨_, _, rfl, ?_, L3⟩
  exact own_lower HW.out hz
end Go.Proofs.YtmhpeppbhjpkiaaGreat.Ab

/- The contract of (*Buffer).Lines, for every buffer, the nil one too, and every span. -/
namespace Go.Proofs.YtmhpeppbhjpkiaaGreat.Ab
open Go.RowKit

/-- How many line ends. -/
def nl (l : List UInt8) : Nat := l.countP (· == 10)
theorem nl_le (l : List UInt8) : nl l ≤ l.length := List.countP_le_length
theorem nl_take (l : List UInt8) (k : Nat) (h : k < l.length) : nl (l.take (k + 1)) = nl (l.take k) + if ((l[k].toNat : Int) == 10) = true then 1 else 0 := by
  unfold nl
  rw [List.take_succ_eq_append_getElem h, List.countP_append, List.countP_singleton]
  have e : (l[k] == 10) = ((l[k].toNat : Int) == 10) := by
    rw [Bool.eq_iff_iff]
    simp only [beq_iff_eq]
    constructor
    · intro h; rw [h]; rfl
    · intro h
      apply UInt8.toNat_inj.1
      have : (10 : UInt8).toNat = 10 := rfl
      omega
  rw [e]

theorem ret_int {k : IntKind} {a b : Int} (h : a = b) : Ending.returned (.int k a) = .returned (.int k b) := by rw [h]
theorem ret_two {a b c : Int} (h : a = b) : Ending.returned (.tuple #[.int .i64 a, .int .i64 c]) = .returned (.tuple #[.int .i64 b, .int .i64 c]) := by rw [h]

set_option maxHeartbeats 400000 in
theorem lines_no (p : Option Addr) (s o l : Int) (O A : List UInt8) (base : Nat) (w : World) (h1 : -9223372036854775808 ≤ l) (h2 : l ≤ 9223372036854775807) (hd : hdB s o l O A = false) (h : Hid (Bf w base p O A)) :
    Calls Tryz.prog 49 #[.pointer p, .agg #[.int .i64 s, .int .i64 o, .int .i64 l]] w fun e w' => e = .returned (.tuple #[.int .i64 0, .int .i64 10]) ∧ Below w.heap.size w w' := by
  go_enter Tryz.func49, Tryz.ntmps49
  go_wp2_with fail
  refine (holds_any p s o l O A base _ h1 h2 (h.out.alloc _)).mono ?_
  rintro e w1 ⟨rfl, hb⟩
  go_wp2
  go_ret2
  exact ⟨rfl, (bAlloc (Below.refl _ _) _).trans (hb.mono (by simp))⟩

set_option maxHeartbeats 800000 in
theorem lines_yes (p : Option Addr) (s : Int) (o l : Nat) (O A : List UInt8) (base : Nat) (w : World) (hs : sndB s o l = true) (hh : o + l ≤ (which s O A).length) (h : Hid (Bf w base p O A)) :
    Calls Tryz.prog 49 #[.pointer p, .agg #[.int .i64 s, .int .i64 o, .int .i64 l]] w fun e w' => e = .returned (.tuple #[.int .i64 (nl (cutL s o l O A) : Int), .int .i64 0]) ∧ Below w.heap.size w w' := by
  have hd := hd_true hs hh
  have bd := snd_bd hs
  have HC : Hid ((cutL s o l O A).length = l) := cutL_length hh
  go_enter Tryz.func49, Tryz.ntmps49
  go_wp2_with fail
  refine (holds_any p s o l O A base _ (by omega) (by omega) (h.out.alloc _)).mono ?_
  rintro e w1 ⟨rfl, hb⟩
  have B1 : Hid (Bf w1 base p O A) := (h.out.alloc _).keep hb
  have S1 := (SpanAt.new w s o l).keep hb
  have L1 : Below w.heap.size w w1 := (bAlloc (Below.refl _ _) _).trans (hb.mono (by simp))
  clear hb h
  obtain ⟨az, a0, a1, a2, -⟩ := id S1
  go_wp2_with fail
  refine (held_any p s o l O A base _ hh B1).mono ?_
  rintro e w2 ⟨ao, k, rfl, hr, hb⟩
  have L2 := L1.trans (hb.mono L1.size)
  clear hb az a0 a1 a2 S1 B1 L1
  have HR : Hid (RdB w2 (.slice ao l k) (cutL s o l O A)) := hr
  clear hr hh hd hs
  obtain ⟨C, HE⟩ : ∃ C, Hid (cutL s o l O A = C) := ⟨_, rfl⟩
  rw [HE.out] at HR HC
  rcases HR.out with ⟨hv, hn⟩ | ⟨g, off, c, hv, hcell⟩
  · have hl : l = 0 := by have := HC.out; rw [hn] at this; simp at this; omega
    subst hl
    have HZ : Hid (nl (cutL s o 0 O A) = 0) := by unfold Hid; have he : cutL s o 0 O A = C := HE.out; rw [he, hn]; rfl
    clear HR HC hv hn HE
    go_wp2
    go_loop [6, 17] (fun n i => n = .int .i64 0 ∧ i = .int .i64 0) (fun _ _ => 0)
    case atStart => exact ⟨rfl, rfl⟩
    case round =>
      obtain ⟨rfl, rfl⟩ := hrel
      go_wp2
      go_ret2
      exact ⟨ret_two (by rw [HZ.out]; rfl), L2⟩
  · have hv2 : ao = some ⟨g, off, none⟩ ∧ k = c := by simp at hv; exact ⟨hv.1, hv.2.2⟩
    obtain ⟨rfl, rfl⟩ := hv2
    have hl : C.length = l := HC.out
    subst hl
    have HX : Hid (∀ j u, (bv C)[j]? = some u → w2.cell? ⟨g, off + j, none⟩ = some u) := hcell
    clear hcell HR HC hv
    go_wp2
    go_loop [6, 17] (fun n i => ∃ j : Nat, j ≤ C.length ∧ i = .int .i64 j ∧ n = .int .i64 (nl (C.take j))) (fun _ i => C.length - (intOf i).toNat)
    case atStart => exact ⟨0, Nat.zero_le _, rfl, rfl⟩
    case round =>
      obtain ⟨j, hj, rfl, rfl⟩ := hrel
      have hb := nl_le (C.take j)
      have hb2 : (C.take j).length ≤ j := List.length_take_le _ _
      by_cases hlt : j < C.length
      · have hc := HX.out j _ (bv_at C j hlt)
        have HS : Hid (nl (C.take (j + 1)) = nl (C.take j) + if ((C[j].toNat : Int) == 10) = true then 1 else 0) := nl_take C j hlt
        cases h10 : ((C[j].toNat : Int) == 10) with
        | true =>
          have HT : Hid (nl (C.take (j + 1)) = nl (C.take j) + 1) := by unfold Hid; rw [HS.out, h10]; rfl
          clear HS
          go_wp2
          go_round
          case rel => exact ⟨j + 1, by omega, by go_num, by rw [HT.out]; go_num⟩
          case measure => simp [intOf]; omega
        | false =>
          have HT : Hid (nl (C.take (j + 1)) = nl (C.take j)) := by unfold Hid; rw [HS.out, h10]; rfl
          clear HS
          go_wp2
          go_round
          case rel => exact ⟨j + 1, by omega, by go_num, by rw [HT.out]⟩
          case measure => simp [intOf]; omega
      · go_wp2
        go_ret2
        exact ⟨ret_two (by rw [HE.out, List.take_of_length_le (by omega)]), L2⟩
end Go.Proofs.YtmhpeppbhjpkiaaGreat.Ab

/- The contract of (*Buffer).Add: the bytes go behind all that was added; a nil buffer takes nothing in. -/
namespace Go.Proofs.YtmhpeppbhjpkiaaGreat.Ab
open Go.RowKit

set_option maxHeartbeats 400000 in
theorem add_nil (v : Value) (w : World) : Calls Tryz.prog 76 #[.pointer none, v] w fun e w' => e = .returned (.agg #[.int .i64 0, .int .i64 0, .int .i64 0]) ∧ Below w.heap.size w w' := by
  go_enter Tryz.func76, Tryz.ntmps76
  go_wp2
  exact bodyPost_ret (v := .agg #[.int .i64 0, .int .i64 0, .int .i64 0]) (by simp [results, Tryz.results76, go_sem]) rfl ⟨rfl, bAlloc (Below.refl _ _) _⟩

/-- w' is w but for new blocks, for block b, and for one row. -/
structure Touch (w w' : World) (b : Nat) (row : Option Nat) : Prop where
  os : w'.os = w.os
  tape : w'.tape = w.tape
  output : w'.output = w.output
  size : w.heap.size ≤ w'.heap.size
  block : ∀ k, k < w.heap.size → k ≠ b → some k ≠ row → w'.heap[k]? = w.heap[k]?

theorem SpanAt.grown {W W1 : World} {b : Nat} {s o l : Int} {row : Option Nat} (h : SpanAt W b s o l) (hg : W.grownBy W1 row) (hne : some b ≠ row) : SpanAt W1 b s o l := by
  obtain ⟨hb, h0, h1, h2, f0, f1, f2⟩ := h
  have e := hg.block b hb hne
  have hz := hg.size
  refine ⟨by omega, ?_, ?_, ?_, ?_, ?_, ?_⟩
  · rw [World.cell?_of_block (a := ⟨b, 0, none⟩) e]; exact h0
  · rw [World.cell?_of_block (a := ⟨b, 1, none⟩) e]; exact h1
  · rw [World.cell?_of_block (a := ⟨b, 2, none⟩) e]; exact h2
  · rw [World.frozen?_of_block (a := ⟨b, 0, none⟩) e]; exact f0
  · rw [World.frozen?_of_block (a := ⟨b, 1, none⟩) e]; exact f1
  · rw [World.frozen?_of_block (a := ⟨b, 2, none⟩) e]; exact f2

/-- a row of bytes is no block of another make -/
theorem own_ne {W : World} {base b n : Nat} {v : Value} {xs : List Value} {cs : Array Value} {t : Nat} (h : W.ownsRow base 5 1 v n xs) (hb : W.heap[b]? = some (.cells cs t (0, 0))) (ht : t ≠ 5) : some b ≠ v.ownBlock := by
  rcases h.2 with ⟨rfl, _⟩ | ⟨g, cap, cur, rfl, _, hg, _⟩
  · simp [Value.ownBlock]
  · intro e
    simp [Value.ownBlock] at e
    subst e
    rw [hb] at hg
    simp at hg
    exact ht hg.2

theorem grown_setCell (w : World) (p : Addr) (u : Value) : w.grownBy (w.setCell p u) (some p.block) :=
  ⟨rfl, rfl, rfl, by simp, fun k _ hne => Below.heap_setCell w p u k (fun e => hne (by rw [e]))⟩

theorem row2_set (w : World) (b : Nat) (x y v : Value) (h : w.heap[b]? = some (.cells #[x, y] 94 (0, 0))) : (w.setCell ⟨b, 1, none⟩ v).heap[b]? = some (.cells #[x, v] 94 (0, 0)) := by
  simp [World.setCell, Array.getElem?_modify, h]

theorem row_frozen (w : World) (b j : Nat) (cs : Array Value) (t : Nat) (h : w.heap[b]? = some (.cells cs t (0, 0))) : w.frozen? ⟨b, j, none⟩ = false := by
  simp [World.frozen?, h]

theorem BufAt.grown {W W' : World} {base b : Nat} {vo va : Value} {O A : List UInt8} {row : Option Nat} (h : BufAt W base b vo va O A) (hg : W.grownBy W' row) (h1 : some b ≠ row) (h2 : vo.ownBlock = none ∨ vo.ownBlock ≠ row) (h3 : va.ownBlock = none ∨ va.ownBlock ≠ row) : BufAt W' base b vo va O A :=
  ⟨h.lo, by rw [hg.block b h.lt h1]; exact h.here, h.orig.kept hg h2, h.added.kept hg h3, h.apart⟩

/-- What Add does to the world: the row grew; the new list's value is stored; the answer is laid into a block of its own. -/
theorem add_world {w w1 : World} {b : Nat} {vo va v' : Value} {O A l : List UInt8} {base : Nat} {x0 x1 : Obj} {s o k : Int}
    (hB : BufAt w base b vo va O A) (hown : w1.ownsRow base 5 1 v' (A.length + l.length) (bv A ++ bv l)) (hgrow : ((w.alloc x0).alloc x1).grownBy w1 va.ownBlock)
    (hat : v'.ownBlock = va.ownBlock ∨ v'.ownBlock = some (w.heap.size + 1 + 1)) :
    BufAt ((((w1.setCell ⟨b, 1, none⟩ v').setCell ⟨w.heap.size, 0, none⟩ (.int .i64 s)).setCell ⟨w.heap.size, 1, none⟩ (.int .i64 o)).setCell ⟨w.heap.size, 2, none⟩ (.int .i64 k)) base b vo v' O (A ++ l) ∧
      Touch w ((((w1.setCell ⟨b, 1, none⟩ v').setCell ⟨w.heap.size, 0, none⟩ (.int .i64 s)).setCell ⟨w.heap.size, 1, none⟩ (.int .i64 o)).setCell ⟨w.heap.size, 2, none⟩ (.int .i64 k)) b va.ownBlock ∧
      (v'.ownBlock = va.ownBlock ∨ ∃ k, v'.ownBlock = some k ∧ w.heap.size ≤ k) := by
  have bz := hB.lt
  have hz := hgrow.size
  simp at hz
  have hbb : w1.heap[b]? = some (.cells #[vo, va] 94 (0, 0)) := by
    rw [hgrow.block b (by simp; omega) (own_ne hB.added hB.here (by decide)), Below.heap_alloc _ _ _ (by simp; omega), Below.heap_alloc _ _ _ bz]; exact hB.here
  have h2 := row2_set w1 b vo va v' hbb
  have hor : w1.ownsRow base 5 1 vo O.length (bv O) := by
    refine ((hB.orig.alloc x0).alloc x1).kept hgrow ?_
    exact hB.apart
  have k1 : (w1.setCell ⟨b, 1, none⟩ v').ownsRow base 5 1 v' (A.length + l.length) (bv A ++ bv l) := hown.kept (grown_setCell w1 ⟨b, 1, none⟩ v') (.inr (Ne.symm (own_ne hown hbb (by decide))))
  have k2 : (w1.setCell ⟨b, 1, none⟩ v').ownsRow base 5 1 vo O.length (bv O) := hor.kept (grown_setCell w1 ⟨b, 1, none⟩ v') (.inr (Ne.symm (own_ne hor hbb (by decide))))
  have av : vo.ownBlock = none ∨ vo.ownBlock ≠ v'.ownBlock := by
    rcases hat with e | e
    · rw [e]; exact hB.apart
    · rw [e]
      rcases hv : vo.ownBlock with _ | g
      · exact .inl rfl
      · have := (hB.orig.lt g hv).2
        exact .inr (by simp; omega)
  have b1 : BufAt (w1.setCell ⟨b, 1, none⟩ v') base b vo v' O (A ++ l) := ⟨hB.lo, h2, k2, by rw [bv_append, List.length_append]; exact k1, av⟩
  have n1 : some b ≠ some w.heap.size := by simp; omega
  have n2 : vo.ownBlock = none ∨ vo.ownBlock ≠ some w.heap.size := by
    rcases hv : vo.ownBlock with _ | g
    · exact .inl rfl
    · have := (hB.orig.lt g hv).2
      exact .inr (by simp; omega)
  have n3 : v'.ownBlock = none ∨ v'.ownBlock ≠ some w.heap.size := by
    rcases hat with e | e
    · rw [e]
      rcases hv : va.ownBlock with _ | g
      · exact .inl rfl
      · have := (hB.added.lt g hv).2
        exact .inr (by simp; omega)
    · rw [e]; exact .inr (by simp; omega)
  refine ⟨((b1.grown (grown_setCell _ ⟨w.heap.size, 0, none⟩ _) n1 n2 n3).grown (grown_setCell _ ⟨w.heap.size, 1, none⟩ _) n1 n2 n3).grown (grown_setCell _ ⟨w.heap.size, 2, none⟩ _) n1 n2 n3, ⟨hgrow.os, hgrow.tape, hgrow.output, by simp; omega, ?_⟩, ?_⟩
  · intro k hk hkb hkr
    rw [Below.heap_setCell _ _ _ _ (by simp; omega), Below.heap_setCell _ _ _ _ (by simp; omega), Below.heap_setCell _ _ _ _ (by simp; omega), Below.heap_setCell _ _ _ _ (by simpa using hkb)]
    rw [hgrow.block k (by simp; omega) hkr, Below.heap_alloc _ _ _ (by simp; omega), Below.heap_alloc _ _ _ hk]
  · rcases hat with e | e
    · exact .inl e
    · exact .inr ⟨_, e, by omega⟩

set_option maxHeartbeats 800000 in
theorem add_some (b : Nat) (vo va : Value) (O A : List UInt8) (base : Nat) (a : Addr) (c : Nat) (l : List UInt8) (w : World) (hB : Hid (BufAt w base b vo va O A)) (hbig : A.length + l.length ≤ 140737488355328)
    (hc : Hid (∀ j u, (bv l)[j]? = some u → w.cell? (a.add j) = some u)) :
    Calls Tryz.prog 76 #[.pointer (some ⟨b, 0, none⟩), .slice (some a) l.length c] w fun e w' => ∃ va', e = .returned (.agg #[.int .i64 1, .int .i64 (A.length : Int), .int .i64 (l.length : Int)]) ∧ BufAt w' base b vo va' O (A ++ l) ∧ Touch w w' b va.ownBlock ∧ (va'.ownBlock = va.ownBlock ∨ ∃ k, va'.ownBlock = some k ∧ w.heap.size ≤ k) := by
  obtain ⟨i0, hi, hz0, hz1, hz2⟩ := info_parts info5
  have c1 := hB.out.cell1
  have bz := hB.out.lt
  obtain ⟨a1, n1, rfl⟩ := own_shape hB.out.added
  go_enter Tryz.func76, Tryz.ntmps76
  go_wp2_with (at_builtin; refine wpList_append_own_at _ rfl _ _ 22 rfl base 5 i0 (.int .u8 0) 1 1 Tryz.underlying22 hi hz0 hz1 hz2 rfl (by decide) _ _ _ rfl ((hB.out.added.alloc _).alloc _) a l.length c (bv l) rfl ?qc1 ?qc2 ?qc3 ?qc4 ?qc5 ?qc6 ?_)
  case qc1 => simp [bv_length]
  case qc2 => exact fun j u hj => Lib.cell?_alloc_marked _ (Lib.cell?_alloc_marked _ (hc.out j u hj))
  case qc3 => exact bv_one l
  case qc4 => unfold maxLen; omega
  case qc5 => omega
  case qc6 => have := hB.out.lo; simp; omega
  intro v' w1 hown hgrow _ hat
  have hz := hgrow.size
  simp at hz hat
  have FIN : Hid (∀ s o k : Int, _ ∧ _ ∧ _) := fun s o k => add_world (s := s) (o := o) (k := k) hB.out hown hgrow hat
  have r : ∀ k, (Value.slice a1 A.length n1).ownBlock = some k → k < w.heap.size := fun k hk => (hB.out.added.lt k hk).2
  have Z1 := ((SpanAt.new w 0 0 0).alloc _).grown hgrow (fun e => absurd (r _ e.symm) (by omega))
  have P1 := (by simpa using SpanAt.new (w.alloc _) 1 A.length l.length : SpanAt ((w.alloc _).alloc _) (w.heap.size + 1) _ _ _).grown hgrow (fun e => absurd (r _ e.symm) (by omega))
  have hbb : w1.heap[b]? = some (.cells #[vo, .slice a1 A.length n1] 94 (0, 0)) := by
    rw [hgrow.block b (by simp; omega) (own_ne hB.out.added hB.out.here (by decide)), Below.heap_alloc _ _ _ (by simp; omega), Below.heap_alloc _ _ _ bz]; exact hB.out.here
  have cb : w1.cell? ⟨b, 1, none⟩ = some (.slice a1 A.length n1) := by rw [cell_of_row w1 b 1 _ 94 (0, 0) hbb]; rfl
  have fb := row_frozen w1 b 1 _ 94 hbb
  obtain ⟨ao', cap', rfl⟩ := own_shape hown
  clear hown hgrow hat hbb r c1 hi hz0 hz1 hz2
  obtain ⟨z1, z2, z3, z4, z5, z6, z7⟩ := id Z1
  obtain ⟨p1, p2, p3, p4, -⟩ := id P1
  go_wp2
  refine bodyPost_ret (v := .agg #[.int .i64 1, .int .i64 (A.length : Int), .int .i64 (l.length : Int)]) (by simp [results, Tryz.results76, go_sem, z2, z3, z4]) rfl ⟨_, rfl, FIN.out _ _ _⟩

theorem add_same {w : World} {b : Nat} {vo va : Value} {O A : List UInt8} {base : Nat} (x0 x1 : Obj) (hB : BufAt w base b vo va O A) :
    BufAt (((w.setCell ⟨b, 1, none⟩ va).alloc x0).alloc x1) base b vo va O (A ++ []) ∧ Touch w (((w.setCell ⟨b, 1, none⟩ va).alloc x0).alloc x1) b va.ownBlock := by
  have bz := hB.lt
  have b1 : BufAt (w.setCell ⟨b, 1, none⟩ va) base b vo va O A :=
    ⟨hB.lo, row2_set w b vo va va hB.here, hB.orig.kept (grown_setCell w ⟨b, 1, none⟩ va) (.inr (Ne.symm (own_ne hB.orig hB.here (by decide)))), hB.added.kept (grown_setCell w ⟨b, 1, none⟩ va) (.inr (Ne.symm (own_ne hB.added hB.here (by decide)))), hB.apart⟩
  refine ⟨by rw [List.append_nil]; exact (b1.alloc _).alloc _, ⟨rfl, rfl, rfl, by simp; omega, ?_⟩⟩
  intro k hk hkb _
  rw [Below.heap_alloc _ _ _ (by simp; omega), Below.heap_alloc _ _ _ (by simpa using hk), Below.heap_setCell _ _ _ _ (by simpa using hkb)]

set_option maxHeartbeats 800000 in
theorem add_none (b : Nat) (vo va : Value) (O A : List UInt8) (base : Nat) (w : World) (hB : Hid (BufAt w base b vo va O A)) :
    Calls Tryz.prog 76 #[.pointer (some ⟨b, 0, none⟩), .slice none 0 0] w fun e w' => ∃ va', e = .returned (.agg #[.int .i64 1, .int .i64 (A.length : Int), .int .i64 0]) ∧ BufAt w' base b vo va' O (A ++ []) ∧ Touch w w' b va.ownBlock ∧ (va'.ownBlock = va.ownBlock ∨ ∃ k, va'.ownBlock = some k ∧ w.heap.size ≤ k) := by
  obtain ⟨i0, hi, hz0, hz1, hz2⟩ := info_parts info5
  have c1 := hB.out.cell1
  have bz := hB.out.lt
  have fb := row_frozen w b 1 _ 94 hB.out.here
  have hm := own_le hB.out.added
  unfold maxLen at hm
  obtain ⟨a1, n1, rfl⟩ := own_shape hB.out.added
  go_enter Tryz.func76, Tryz.ntmps76
  go_wp2_with (at_builtin; refine wpList_append_own_none rfl _ _ 22 rfl base 5 i0 1 Tryz.underlying22 hi _ _ _ rfl ((hB.out.added.alloc _).alloc _) rfl ?_)
  refine bodyPost_ret (v := .agg #[.int .i64 1, .int .i64 (A.length : Int), .int .i64 0]) (by simp [results, Tryz.results76, go_sem]) rfl ⟨_, rfl, (add_same _ _ hB.out).1, (add_same _ _ hB.out).2, .inl rfl⟩

theorem add_any (v : Value) (b : Nat) (vo va : Value) (O A : List UInt8) (base : Nat) (l : List UInt8) (w : World) (hB : BufAt w base b vo va O A) (hbig : A.length + l.length ≤ 140737488355328) (hv : Rd w v l) :
    Calls Tryz.prog 76 #[.pointer (some ⟨b, 0, none⟩), v] w fun e w' => ∃ va', e = .returned (.agg #[.int .i64 1, .int .i64 (A.length : Int), .int .i64 (l.length : Int)]) ∧ BufAt w' base b vo va' O (A ++ l) ∧ Touch w w' b va.ownBlock ∧ (va'.ownBlock = va.ownBlock ∨ ∃ k, va'.ownBlock = some k ∧ w.heap.size ≤ k) := by
  rcases hv with ⟨rfl, rfl⟩ | ⟨a, c, rfl, hc⟩
  · exact add_none b vo va O A base w hB
  · exact add_some b vo va O A base a c l w hB hbig hc
end Go.Proofs.YtmhpeppbhjpkiaaGreat.Ab

