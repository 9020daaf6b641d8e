/- The walk of quoinlaw06.ClassCuts: it answers true for every text. -/
import Derived.Test.YtcjlkcpmljddfaaSame
namespace Go.Proofs.Ytcjlkcpmljddfaa
open Go.RowKit

set_option maxRecDepth 100000 in
set_option maxHeartbeats 4000000 in
theorem classCuts_walk (ao : Option Addr) (n c : Nat) (l : List UInt8) (w : World) (hn : n ≤ 4398046511104) (HT : Hid (Tx w ao n c l)) :
    Calls Try.prog 6 #[.slice ao n c] w fun e w' => e = .returned (.bool true) ∧ Below w.heap.size w w' := by
  have hn' : (n : Int) ≤ 4398046511104 := by omega
  go_enter Try.func6, Try.ntmps6
  go_wp2_with fail
  refine (awake_any _).mono ?_
  rintro e w' ⟨rfl, hw⟩; have hq := hw.symm; subst hq; clear hw
  go_wp2_with fail
  go_loopw [3] (fun x wr => ∃ k : Nat, x = .int .i64 k ∧ k ≤ 2 ∧ Below w.heap.size w wr) (fun x _ => 2 - (intOf x).toNat)
  case atStart => exact ⟨0, rfl, Nat.zero_le _, Below.refl _ _⟩
  case round =>
    obtain ⟨k, rfl, hk, hB⟩ := hrel
    have HB := Hid.mk' hB
    have T1 := Hid.mk' (HT.out.keep hB)
    clear hB
    by_cases hk2 : k < 2
    · have hk0 : (0 : Int) ≤ (k : Int) := by omega
      have hk1 : (k : Int) < 2 := by omega
      obtain ⟨b, hb⟩ : ∃ b : Bool, ((k : Int) == 1) = b := ⟨_, rfl⟩
      go_wp2_with fail
      refine (runs_any ao n c l b _ hn T1).mono ?_
      rintro e w2 ⟨v2, rfl, hO2, hb2⟩
      have T2 := Hid.mk' (T1.out.keep hb2)
      obtain ⟨a2, c2, e2⟩ := own_shape hO2
      subst e2
      have I2 := Hid.mk' (own_ir hO2 rfl)
      have B2 := Hid.mk' (bT HB.out hb2)
      have HL := Hid.mk' (rn_len (kn l b) n n)
      clear hO2 hb2
      go_wp2_with fail
      go_loopw [5, 6] (fun x y wr => ∃ f i : Nat, x = .int .i64 f ∧ y = .int .i64 i ∧ f ≤ n ∧ (rn (kn l b) n f).length = i ∧ wr = w2) (fun _ y _ => (rn (kn l b) n n).length - (intOf y).toNat)
      case atStart => exact ⟨0, 0, rfl, rfl, Nat.zero_le _, rfl, rfl⟩
      case round =>
        obtain ⟨f, i, rfl, rfl, hf, hi, hw⟩ := hrel
        have hq := hw.symm
        subst hq
        clear hw
        have HI := Hid.mk' hi
        clear hi
        by_cases hlt : f < n
        · obtain ⟨e, hfe, hen, hrn, hat, hsame, hnext⟩ := run_next (K := kn l b) hlt
          rw [HI.out] at hat
          have hil : i < (rn (kn l b) n n).length := (List.getElem?_eq_some_iff.1 hat).1
          have HR := Hid.mk' hrn
          have HS := Hid.mk' hsame
          have HN := Hid.mk' hnext
          obtain ⟨g, cg, hg, ce⟩ := I2.out.each i e hat
          have hg2 : a2 = some ⟨g, 0, none⟩ := by simp at hg; exact hg.1
          subst hg2
          obtain ⟨gt, o, hao, hc⟩ := T2.out.at (by omega)
          subst hao
          have HC := Hid.mk' hc
          have cf := hc f (by omega)
          have hi0 : (0 : Int) ≤ (i : Int) := by omega
          have hi1 : (i : Int) < ((rn (kn l b) n n).length : Int) := by omega
          have hi4 : (i : Int) < 4398046511104 := by have := HL.out; omega
          have hf0 : (0 : Int) ≤ (f : Int) := by omega
          have hf1 : (f : Int) < (n : Int) := by omega
          have he1 : (f : Int) < (e : Int) := by omega
          have he2 : (e : Int) ≤ (n : Int) := by omega
          have he3 : ¬ (e : Int) ≤ (f : Int) := by omega
          have he4 : ¬ (n : Int) < (e : Int) := by omega
          clear hrn hat hsame hnext hg hc
          go_wp2_with fail
          refine (of_any _ _ _).mono ?_
          rintro e' w' ⟨rfl, hw⟩; have hq := hw.symm; subst hq; clear hw
          go_wp2_with fail
          go_loopw [8] (fun x wr => ∃ j : Nat, x = .int .i64 j ∧ f ≤ j ∧ j ≤ e ∧ wr = w2) (fun x _ => e - (intOf x).toNat)
          case atStart => exact ⟨f, rfl, Nat.le_refl _, by omega, by first | rfl | trivial⟩
          case round =>
            obtain ⟨j, rfl, hfj, hje, hw⟩ := hrel
            have hq := hw.symm
            subst hq
            clear hw
            have hj0 : (0 : Int) ≤ (j : Int) := by omega
            by_cases hlj : j < e
            · have hj1 : (j : Int) < (e : Int) := by omega
              have hj2 : (j : Int) < (n : Int) := by omega
              have cj := HC.out j (by omega)
              have hK : kd ((at8 l j).toNat : Int) b = kd ((at8 l f).toNat : Int) b := HS.out j hfj hlj
              go_wp2_with (go_at_call 9; refine (of_any _ _ _).mono ?_; rintro e' w' ⟨rfl, hw⟩; have hq := hw.symm; subst hq; clear hw)
              go_roundw
              case rel => exact ⟨j + 1, by go_num, by omega, by omega, by first | rfl | trivial⟩
              case measure => simp [intOf]; omega
            · obtain rfl : j = e := by omega
              have hjj : ¬ (j : Int) < (j : Int) := by omega
              by_cases hen2 : j < n
              · have hj2 : (j : Int) < (n : Int) := by omega
                have cj := HC.out j (by omega)
                have hK : (kd ((at8 l j).toNat : Int) b == kd ((at8 l f).toNat : Int) b) = false := by
                  rw [beq_eq_false_iff_ne]; exact HN.out hen2
                go_wp2_with (go_at_call 9; refine (of_any _ _ _).mono ?_; rintro e' w' ⟨rfl, hw⟩; have hq := hw.symm; subst hq; clear hw)
                go_roundw
                case rel => exact ⟨j, i + 1, by go_num, by go_num, by omega, by rw [HR.out, List.length_append, HI.out]; rfl, by first | rfl | trivial⟩
                case measure => simp [intOf]; omega
              · have hj2 : ¬ (j : Int) < (n : Int) := by omega
                go_wp2
                go_roundw
                case rel => exact ⟨j, i + 1, by go_num, by go_num, by omega, by rw [HR.out, List.length_append, HI.out]; rfl, by first | rfl | trivial⟩
                case measure => simp [intOf]; omega
        · obtain rfl : f = n := by omega
          have hi1 : ¬ (i : Int) < ((rn (kn l b) f f).length : Int) := by have := HI.out; omega
          go_wp2
          go_roundw
          case rel => exact ⟨k + 1, by go_num, by omega, B2.out⟩
          case measure => simp [intOf]; omega
    · have hk1 : ¬ (k : Int) < 2 := by omega
      go_wp2_with fail
      refine (runs_any ao n c l true _ hn T1).mono ?_
      rintro e w2 ⟨v2, rfl, hO2, hb2⟩
      have T2 := Hid.mk' (T1.out.keep hb2)
      obtain ⟨a2, c2, e2⟩ := own_shape hO2
      subst e2
      clear hO2
      go_wp2_with fail
      refine (runs_any ao n c l false _ hn T2).mono ?_
      rintro e w3 ⟨v3, rfl, hO3, hb3⟩
      obtain ⟨a3, c3, e3⟩ := own_shape hO3
      subst e3
      clear hO3
      have hle : ((rn (kn l true) n n).length : Int) ≤ ((rn (kn l false) n n).length : Int) := by have := rn_big l n; omega
      go_wp2
      go_ret
      exact ⟨rfl, bT (bT HB.out hb2) hb3⟩
end Go.Proofs.Ytcjlkcpmljddfaa
