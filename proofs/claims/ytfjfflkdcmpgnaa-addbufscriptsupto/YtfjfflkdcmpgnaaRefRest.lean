/- The contracts of quoinref01.Byte, Lines and LineAt: the same answers as the program's. -/
import Derived.Test.YtfjfflkdcmpgnaaRefAll
namespace Go.Proofs.Ytfjfflkdcmpgnaa
open Go.RowKit

theorem endsI (ao : Option Addr) (c : Nat) (C : List UInt8) (n : Nat) (hn : C.length = n) (w : World) (hbig : n ≤ 4398046511104) (hr : RdB w (.slice ao n c) C) :
    Calls Try.prog 37 #[.slice ao n c] w fun e w' => ∃ ae ce, e = .returned (.slice ae (nl C) ce) ∧ w'.ownsRow w.heap.size 3 1 (.slice ae (nl C) ce) (nl C) (iv (endsTo C C.length)) ∧ Below w.heap.size w w' := by
  subst hn
  exact ends_any ao c C w hbig hr

set_option maxHeartbeats 800000 in
theorem refByte_all (a0 a1 : Option Addr) (c0 c1 : Nat) (O A : List UInt8) (base : Nat) (s o l i : Int) (w : World) (h1 : -9223372036854775808 ≤ o) (h2 : o ≤ 9223372036854775807) (hbig : (which s O A).length ≤ 140737488355328)
    (hO : Hid (w.ownsRow base 5 1 (.slice a0 O.length c0) O.length (bv O))) (hA : Hid (w.ownsRow base 5 1 (.slice a1 A.length c1) A.length (bv A))) :
    Calls Try.prog 28 #[.slice a0 O.length c0, .slice a1 A.length c1, .agg #[.int .i64 s, .int .i64 o, .int .i64 l], .int .i64 i] w fun e w' => e = .returned (.tuple #[.int .u8 (byV s o l i O A), .int .i64 (byE s o l i O A)]) ∧ Below w.heap.size w w' := by
  cases hd : hdB s o l O A with
  | false =>
    have e1 : byV s o l i O A = 0 := by unfold byV; rw [hd]; simp
    have e2 : byE s o l i O A = 10 := by unfold byE; rw [hd]; simp
    rw [e1, e2]
    clear e1 e2
    go_enter Try.func28, Try.ntmps28
    go_wp2_with fail
    refine (refRead_no a0 a1 c0 c1 O A s o l _ h1 h2 hd).mono ?_
    rintro e w1 ⟨rfl, hb⟩
    go_wp2
    go_ret2
    exact ⟨rfl, (bAlloc (Below.refl _ _) _).trans (hb.mono (by simp))⟩
  | true =>
    obtain ⟨o', l', rfl, rfl, hs, hh, hb62⟩ := hd_parts hd
    have HS : Hid (sndB s o' l' = true) := hs
    have HH : Hid (o' + l' ≤ (which s O A).length) := hh
    have hl' : l' ≤ 140737488355328 := by omega
    have HC : Hid ((cutL s o' l' O A).length = l') := cutL_length hh
    by_cases hi : i < 0
    · have e1 : byV s o' l' i O A = 0 := by unfold byV; rw [if_neg (by omega)]
      have e2 : byE s o' l' i O A = 2 := by unfold byE; rw [hd, if_neg (by simp), if_pos (.inl hi)]
      rw [e1, e2]
      clear e1 e2 hd hs hh
      go_enter Try.func28, Try.ntmps28
      go_wp2_with fail
      refine (refRead_yes a0 a1 c0 c1 O A base s o' l' _ HS.out HH.out hl' (hO.out.alloc _) (hA.out.alloc _)).mono ?_
      rintro e w1 ⟨ap, cp, rfl, -, hb⟩
      have L1 : Below w.heap.size w w1 := (bAlloc (Below.refl _ _) _).trans (hb.mono (by simp))
      clear hb
      go_wp2
      go_ret2
      exact ⟨rfl, L1⟩
    · by_cases hl : (l' : Int) ≤ i
      · have e1 : byV s o' l' i O A = 0 := by unfold byV; rw [if_neg (by omega)]
        have e2 : byE s o' l' i O A = 2 := by unfold byE; rw [hd, if_neg (by simp), if_pos (.inr hl)]
        rw [e1, e2]
        clear e1 e2 hd hs hh
        go_enter Try.func28, Try.ntmps28
        go_wp2_with fail
        refine (refRead_yes a0 a1 c0 c1 O A base s o' l' _ HS.out HH.out hl' (hO.out.alloc _) (hA.out.alloc _)).mono ?_
        rintro e w1 ⟨ap, cp, rfl, -, hb⟩
        have L1 : Below w.heap.size w w1 := (bAlloc (Below.refl _ _) _).trans (hb.mono (by simp))
        clear hb
        go_wp2
        go_ret2
        exact ⟨rfl, L1⟩
      · obtain ⟨i', rfl⟩ := Int.eq_ofNat_of_zero_le (show 0 ≤ i by omega)
        have e1 : byV s o' l' i' O A = ((at8 (cutL s o' l' O A) i').toNat : Int) := by unfold byV; rw [if_pos ⟨hd, by omega, by omega⟩, Int.toNat_natCast]
        have e2 : byE s o' l' i' O A = 0 := by unfold byE; rw [hd, if_neg (by simp), if_neg (by omega)]
        rw [e1, e2]
        clear e1 e2 hd hs hh
        have hi0 : (0 : Int) ≤ (i' : Int) := by omega
        have hil : (i' : Int) < (l' : Int) := by omega
        have hx : (at8 (cutL s o' l' O A) i').toNat < 256 := (at8 (cutL s o' l' O A) i').toNat_lt
        go_enter Try.func28, Try.ntmps28
        go_wp2_with fail
        refine (refRead_yes a0 a1 c0 c1 O A base s o' l' _ HS.out HH.out hl' (hO.out.alloc _) (hA.out.alloc _)).mono ?_
        rintro e w1 ⟨ap, cp, rfl, hown, hb⟩
        have L1 : Below w.heap.size w w1 := (bAlloc (Below.refl _ _) _).trans (hb.mono (by simp))
        obtain ⟨g, cap, hv, -, -⟩ := own_some hown (by omega)
        have hv2 : ap = some ⟨g, 0, none⟩ := by simp at hv; exact hv.1
        subst hv2
        have hc : w1.cell? ⟨g, i', none⟩ = some (.int .u8 ((at8 (cutL s o' l' O A) i').toNat : Int)) := by
          rw [hown.cellAt i' (by omega), bv_at _ i' (by rw [HC.out]; omega), at8_eq (by rw [HC.out]; omega)]
        clear hb hown hv
        go_wp2
        go_ret2
        exact ⟨rfl, L1⟩

set_option maxHeartbeats 800000 in
theorem refLines_all (a0 a1 : Option Addr) (c0 c1 : Nat) (O A : List UInt8) (base : Nat) (s o l : Int) (w : World) (h1 : -9223372036854775808 ≤ o) (h2 : o ≤ 9223372036854775807) (hbig : (which s O A).length ≤ 4398046511104)
    (hO : Hid (w.ownsRow base 5 1 (.slice a0 O.length c0) O.length (bv O))) (hA : Hid (w.ownsRow base 5 1 (.slice a1 A.length c1) A.length (bv A))) :
    Calls Try.prog 29 #[.slice a0 O.length c0, .slice a1 A.length c1, .agg #[.int .i64 s, .int .i64 o, .int .i64 l]] w fun e w' => e = .returned (.tuple #[.int .i64 (lnV s o l O A), .int .i64 (lnE s o l O A)]) ∧ Below w.heap.size w w' := by
  cases hd : hdB s o l O A with
  | false =>
    have e1 : lnV s o l O A = 0 := by unfold lnV; rw [hd]; simp
    have e2 : lnE s o l O A = 10 := by unfold lnE; rw [hd]; simp
    rw [e1, e2]
    clear e1 e2
    go_enter Try.func29, Try.ntmps29
    go_wp2_with fail
    refine (refRead_no a0 a1 c0 c1 O A s o l _ h1 h2 hd).mono ?_
    rintro e w1 ⟨rfl, hb⟩
    go_wp2
    go_ret2
    exact ⟨rfl, (bAlloc (Below.refl _ _) _).trans (hb.mono (by simp))⟩
  | true =>
    obtain ⟨o', l', rfl, rfl, hs, hh, hb62⟩ := hd_parts hd
    have HS : Hid (sndB s o' l' = true) := hs
    have HH : Hid (o' + l' ≤ (which s O A).length) := hh
    have hl' : l' ≤ 4398046511104 := by omega
    have HC : Hid ((cutL s o' l' O A).length = l') := cutL_length hh
    have e1 : lnV s o' l' O A = (nl (cutL s o' l' O A) : Int) := by unfold lnV; rw [if_pos hd]
    have e2 : lnE s o' l' O A = 0 := by unfold lnE; rw [if_pos hd]
    rw [e1, e2]
    clear e1 e2 hd hs hh
    go_enter Try.func29, Try.ntmps29
    go_wp2_with fail
    refine (refRead_yes a0 a1 c0 c1 O A base s o' l' _ HS.out HH.out (by omega) (hO.out.alloc _) (hA.out.alloc _)).mono ?_
    rintro e w1 ⟨ap, cp, rfl, hown, hb⟩
    have L1 : Below w.heap.size w w1 := (bAlloc (Below.refl _ _) _).trans (hb.mono (by simp))
    have HR : Hid (RdB w1 (.slice ap l' cp) (cutL s o' l' O A)) := own_rdB hown
    clear hb hown
    go_wp2_with fail
    refine (endsI ap cp (cutL s o' l' O A) l' HC.out _ (by omega) HR.out).mono ?_
    rintro e w2 ⟨ae, ce, rfl, -, hb⟩
    have L2 := L1.trans (hb.mono L1.size)
    clear hb
    go_wp2
    go_ret2
    exact ⟨rfl, L2⟩

set_option maxHeartbeats 1000000 in
theorem refLineAt_all (a0 a1 : Option Addr) (c0 c1 : Nat) (O A : List UInt8) (base : Nat) (s o l n : Int) (w : World) (h1 : -9223372036854775808 ≤ o) (h2 : o ≤ 9223372036854775807) (hbig : (which s O A).length ≤ 4398046511104)
    (hO : Hid (w.ownsRow base 5 1 (.slice a0 O.length c0) O.length (bv O))) (hA : Hid (w.ownsRow base 5 1 (.slice a1 A.length c1) A.length (bv A))) :
    Calls Try.prog 31 #[.slice a0 O.length c0, .slice a1 A.length c1, .agg #[.int .i64 s, .int .i64 o, .int .i64 l], .int .i64 n] w fun e w' => e = .returned (.tuple #[.int .i64 (laV s o l n O A), .int .i64 (laE s o l n O A)]) ∧ Below w.heap.size w w' := by
  cases hd : hdB s o l O A with
  | false =>
    have e1 : laV s o l n O A = 0 := by unfold laV; rw [hd]; simp
    have e2 : laE s o l n O A = 10 := by unfold laE; rw [hd]; simp
    rw [e1, e2]
    clear e1 e2
    go_enter Try.func31, Try.ntmps31
    go_wp2_with fail
    refine (refRead_no a0 a1 c0 c1 O A s o l _ h1 h2 hd).mono ?_
    rintro e w1 ⟨rfl, hb⟩
    go_wp2
    go_ret2
    exact ⟨rfl, (bAlloc (Below.refl _ _) _).trans (hb.mono (by simp))⟩
  | true =>
    obtain ⟨o', l', rfl, rfl, hs, hh, hb62⟩ := hd_parts hd
    have HS : Hid (sndB s o' l' = true) := hs
    have HH : Hid (o' + l' ≤ (which s O A).length) := hh
    have hl' : l' ≤ 4398046511104 := by omega
    have HC : Hid ((cutL s o' l' O A).length = l') := cutL_length hh
    have hnl : nl (cutL s o' l' O A) ≤ l' := by have h := nl_le (cutL s o' l' O A); rw [HC.out] at h; exact h
    by_cases hi : n < 0
    · have e1 : laV s o' l' n O A = 0 := by unfold laV; rw [if_neg (by omega)]
      have e2 : laE s o' l' n O A = 2 := by unfold laE; rw [hd, if_neg (by simp), if_pos (.inl hi)]
      rw [e1, e2]
      clear e1 e2 hd hs hh
      go_enter Try.func31, Try.ntmps31
      go_wp2_with fail
      refine (refRead_yes a0 a1 c0 c1 O A base s o' l' _ HS.out HH.out (by omega) (hO.out.alloc _) (hA.out.alloc _)).mono ?_
      rintro e w1 ⟨ap, cp, rfl, hown, hb⟩
      have L1 : Below w.heap.size w w1 := (bAlloc (Below.refl _ _) _).trans (hb.mono (by simp))
      have HR : Hid (RdB w1 (.slice ap l' cp) (cutL s o' l' O A)) := own_rdB hown
      clear hb hown
      go_wp2_with fail
      refine (endsI ap cp (cutL s o' l' O A) l' HC.out _ (by omega) HR.out).mono ?_
      rintro e w2 ⟨ae, ce, rfl, -, hb⟩
      have L2 := L1.trans (hb.mono L1.size)
      clear hb
      go_wp2
      go_ret2
      exact ⟨rfl, L2⟩
    · obtain ⟨n', rfl⟩ := Int.eq_ofNat_of_zero_le (show 0 ≤ n by omega)
      by_cases hl : (nl (cutL s o' l' O A) : Int) ≤ (n' : Int)
      · have e1 : laV s o' l' n' O A = 0 := by unfold laV; rw [if_neg (by omega)]
        have e2 : laE s o' l' n' O A = 2 := by unfold laE; rw [hd, if_neg (by simp), if_pos (.inr hl)]
        rw [e1, e2]
        clear e1 e2 hd hs hh
        go_enter Try.func31, Try.ntmps31
        go_wp2_with fail
        refine (refRead_yes a0 a1 c0 c1 O A base s o' l' _ HS.out HH.out (by omega) (hO.out.alloc _) (hA.out.alloc _)).mono ?_
        rintro e w1 ⟨ap, cp, rfl, hown, hb⟩
        have L1 : Below w.heap.size w w1 := (bAlloc (Below.refl _ _) _).trans (hb.mono (by simp))
        have HR : Hid (RdB w1 (.slice ap l' cp) (cutL s o' l' O A)) := own_rdB hown
        clear hb hown
        go_wp2_with fail
        refine (endsI ap cp (cutL s o' l' O A) l' HC.out _ (by omega) HR.out).mono ?_
        rintro e w2 ⟨ae, ce, rfl, -, hb⟩
        have L2 := L1.trans (hb.mono L1.size)
        clear hb
        go_wp2
        go_ret2
        exact ⟨rfl, L2⟩
      · obtain ⟨q, hq1, -⟩ := endsTo_at (cutL s o' l' O A) (cutL s o' l' O A).length n' (Nat.le_refl _) (by rw [List.take_length]; omega)
        have e1 : laV s o' l' n' O A = (q : Int) := by unfold laV; rw [if_pos ⟨hd, by omega, by omega⟩, Int.toNat_natCast]; simp [List.getD, hq1]
        have e2 : laE s o' l' n' O A = 0 := by unfold laE; rw [hd, if_neg (by simp), if_neg (by omega)]
        rw [e1, e2]
        clear e1 e2 hd hs hh
        have HQ : Hid ((endsTo (cutL s o' l' O A) (cutL s o' l' O A).length)[n']? = some q) := hq1
        clear hq1
        have hn0 : (0 : Int) ≤ (n' : Int) := by omega
        have hnn : (n' : Int) < (nl (cutL s o' l' O A) : Int) := by omega
        go_enter Try.func31, Try.ntmps31
        go_wp2_with fail
        refine (refRead_yes a0 a1 c0 c1 O A base s o' l' _ HS.out HH.out (by omega) (hO.out.alloc _) (hA.out.alloc _)).mono ?_
        rintro e w1 ⟨ap, cp, rfl, hown, hb⟩
        have L1 : Below w.heap.size w w1 := (bAlloc (Below.refl _ _) _).trans (hb.mono (by simp))
        have HR : Hid (RdB w1 (.slice ap l' cp) (cutL s o' l' O A)) := own_rdB hown
        clear hb hown
        go_wp2_with fail
        refine (endsI ap cp (cutL s o' l' O A) l' HC.out _ (by omega) HR.out).mono ?_
        rintro e w2 ⟨ae, ce, rfl, hown, hb⟩
        have L2 := L1.trans (hb.mono L1.size)
        obtain ⟨g, cap, hv, -, -⟩ := own_some hown (by omega)
        have hv2 : ae = some ⟨g, 0, none⟩ := by simp at hv; exact hv.1
        subst hv2
        have hc : w2.cell? ⟨g, n', none⟩ = some (.int .i64 (q : Int)) := by
          rw [hown.cellAt n' (by omega)]
          unfold iv
          rw [List.getElem?_map, HQ.out]; rfl
        clear hb hown hv
        go_wp2
        go_ret2
        exact ⟨rfl, L2⟩
end Go.Proofs.Ytfjfflkdcmpgnaa
