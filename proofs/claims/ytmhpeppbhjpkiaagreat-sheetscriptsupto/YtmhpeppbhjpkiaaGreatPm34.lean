/- The contracts of quoinref01.Byte, Lines and LineAt: the same answers as the program's. -/
import Derived.Test.YtmhpeppbhjpkiaaGreatPm33
namespace Go.Proofs.YtmhpeppbhjpkiaaGreat.Ab
open Go.RowKit

theorem endsI (ao : Option Addr) (c : Nat) (C : List UInt8) (n : Nat) (hn : C.length = n) (w : World) (hbig : n ≤ 4398046511104) (hr : RdB w (.slice ao n c) C) :
    Calls Tryz.prog 102 #[.slice ao n c] w fun e w' => ∃ ae ce, e = .returned (.slice ae (nl C) ce) ∧ w'.ownsRow w.heap.size 3 1 (.slice ae (nl C) ce) (nl C) (iv (endsTo C C.length)) ∧ Below w.heap.size w w' := by
  subst hn
  exact ends_any ao c C w hbig hr

set_option maxHeartbeats 800000 in
theorem refLines_all (a0 a1 : Option Addr) (c0 c1 : Nat) (O A : List UInt8) (base : Nat) (s o l : Int) (w : World) (h1 : -9223372036854775808 ≤ o) (h2 : o ≤ 9223372036854775807) (hbig : (which s O A).length ≤ 4398046511104)
    (hO : Hid (w.ownsRow base 5 1 (.slice a0 O.length c0) O.length (bv O))) (hA : Hid (w.ownsRow base 5 1 (.slice a1 A.length c1) A.length (bv A))) :
    Calls Tryz.prog 56 #[.slice a0 O.length c0, .slice a1 A.length c1, .agg #[.int .i64 s, .int .i64 o, .int .i64 l]] w fun e w' => e = .returned (.tuple #[.int .i64 (lnV s o l O A), .int .i64 (lnE s o l O A)]) ∧ Below w.heap.size w w' := by
  cases hd : hdB s o l O A with
  | false =>
    have e1 : lnV s o l O A = 0 := by unfold lnV; rw [hd]; simp
    have e2 : lnE s o l O A = 10 := by unfold lnE; rw [hd]; simp
    rw [e1, e2]
    clear e1 e2
    go_enter Tryz.func56, Tryz.ntmps56
    go_wp2_with fail
    refine (refRead_no a0 a1 c0 c1 O A s o l _ h1 h2 hd).mono ?_
    rintro e w1 ⟨rfl, hb⟩
    go_wp2
    go_ret2
    exact ⟨rfl, (bAlloc (Below.refl _ _) _).trans (hb.mono (by simp))⟩
  | true =>
    obtain ⟨o', l', rfl, rfl, hs, hh, hb62⟩ := hd_parts hd
    have HS : Hid (sndB s o' l' = true) := hs
    have HH : Hid (o' + l' ≤ (which s O A).length) := hh
    have hl' : l' ≤ 4398046511104 := by omega
    have HC : Hid ((cutL s o' l' O A).length = l') := cutL_length hh
    have e1 : lnV s o' l' O A = (nl (cutL s o' l' O A) : Int) := by unfold lnV; rw [if_pos hd]
    have e2 : lnE s o' l' O A = 0 := by unfold lnE; rw [if_pos hd]
    rw [e1, e2]
    clear e1 e2 hd hs hh
    go_enter Tryz.func56, Tryz.ntmps56
    go_wp2_with fail
    refine (refRead_yes a0 a1 c0 c1 O A base s o' l' _ HS.out HH.out (by omega) (hO.out.alloc _) (hA.out.alloc _)).mono ?_
    rintro e w1 ⟨ap, cp, rfl, hown, hb⟩
    have L1 : Below w.heap.size w w1 := (bAlloc (Below.refl _ _) _).trans (hb.mono (by simp))
    have HR : Hid (RdB w1 (.slice ap l' cp) (cutL s o' l' O A)) := own_rdB hown
    clear hb hown
    go_wp2_with fail
    refine (endsI ap cp (cutL s o' l' O A) l' HC.out _ (by omega) HR.out).mono ?_
    rintro e w2 ⟨ae, ce, rfl, -, hb⟩
    have L2 := L1.trans (hb.mono L1.size)
    clear hb
    go_wp2
    go_ret2
    exact ⟨rfl, L2⟩

end Go.Proofs.YtmhpeppbhjpkiaaGreat.Ab

