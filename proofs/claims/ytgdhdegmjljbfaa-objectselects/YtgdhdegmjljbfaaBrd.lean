/- object.bracketed. -/
import Derived.Test.YtgdhdegmjljbfaaPab
namespace Go.Proofs.Ytgdhdegmjljbfaa
open Go.RowKit
/-- what a key of brackets chooses -/
def bx (l : List UInt8) (k : Int) (q n : Nat) (a : Bool) : Option (Nat × Nat) := (ba l (op k) (cp k) q n).map fun x => if a then (x.1, x.2 + 1) else (x.1 + 1, x.2)
set_option maxRecDepth 8000 in
set_option maxHeartbeats 4000000 in
theorem bracketed_any (ao : Option Addr) (n c q cnt : Nat) (k : Int) (a : Bool) (l : List UInt8) (w : World) (hn : n ≤ 4398046511104) (hq : q ≤ n) (hc1 : 1 ≤ cnt) (hc2 : cnt ≤ 9999) (hk : isB k) (HT : Hid (Tx w ao n c l)) :
    Calls Try.prog 42 #[.slice ao n c, .int .i64 (q : Int), .int .i64 (cnt : Int), .int .u8 k, .bool a] w fun e w' => e = oa (bx l k q cnt a) ∧ Below w.heap.size w w' := by
  have hl := HT.out.len
  have C1 := Hid.mk' (bracketsOf_any k w hk)
  have C2 := Hid.mk' (pairAbout_any ao n c q cnt (op k) (cp k) l w hn hq hc1 hc2 HT)
  unfold bx
  have HM := Hid.mk' (fun x (h : ba l (op k) (cp k) q cnt = some x) => (ba_mem h).1)
  generalize ba l (op k) (cp k) q cnt = r at *
  have HM2 : Hid (∀ x, r = some x → x.1 < x.2 ∧ x.2 < l.length) := fun x h => ⟨(prs_mem (HM.out x h)).1, (prs_mem (HM.out x h)).2.1⟩
  clear HM
  generalize op k = o at *
  generalize cp k = cl at *
  cases r with
  | none =>
    unfold oa at C2
    simp only [Option.isSome_none] at C2
    go_enter Try.func42, Try.ntmps42
    go_wp2_with (first | (go_at_call 59; refine C1.out.mono ?_; rintro e w' ⟨rfl, hw⟩; have hq := hw.symm; subst hq; clear hw) | (go_at_call 60; refine C2.out.mono ?_; rintro e w1 ⟨rfl, hb1⟩; have B1 := Hid.mk' hb1; clear hb1))
    all_goals go_ret3
    all_goals exact ⟨rfl, B1.out⟩
  | some x =>
    obtain ⟨s, t⟩ := x
    obtain ⟨h1, h2⟩ := HM2.out (s, t) rfl
    simp only at h1 h2
    have w1' : IntKind.i64.wrap ((s : Int) + 1) = (s : Int) + 1 := by rw [IntKind.wrap_i64]; omega
    have w2' : IntKind.i64.wrap ((t : Int) + 1) = (t : Int) + 1 := by rw [IntKind.wrap_i64]; omega
    unfold oa at C2
    simp only [Option.isSome_some, Option.getD_some] at C2
    cases a with
    | true =>
      go_enter Try.func42, Try.ntmps42
      go_wp2_with (first | (go_at_call 59; refine C1.out.mono ?_; rintro e w' ⟨rfl, hw⟩; have hq := hw.symm; subst hq; clear hw) | (go_at_call 60; refine C2.out.mono ?_; rintro e w1 ⟨rfl, hb1⟩; have B1 := Hid.mk' hb1; clear hb1))
      all_goals go_ret3
      all_goals exact ⟨rfl, B1.out⟩
    | false =>
      go_enter Try.func42, Try.ntmps42
      go_wp2_with (first | (go_at_call 59; refine C1.out.mono ?_; rintro e w' ⟨rfl, hw⟩; have hq := hw.symm; subst hq; clear hw) | (go_at_call 60; refine C2.out.mono ?_; rintro e w1 ⟨rfl, hb1⟩; have B1 := Hid.mk' hb1; clear hb1))
      all_goals go_ret3
      all_goals exact ⟨rfl, B1.out⟩
end Go.Proofs.Ytgdhdegmjljbfaa
