/- The contract of quoinlaw06.same, of two lists of the same numbers; a list of numbers that is read (Ir). -/
import Derived.Test.YtcjlkcpmljddfaaRuns
import Derived.Test.YtcjlkcpmljddfaaAwake
namespace Go.Proofs.Ytcjlkcpmljddfaa
open Go.RowKit

/-- v reads as the numbers E -/
structure Ir (w : World) (v : Value) (E : List Nat) : Prop where
  top : ∃ a c, v = .slice a E.length c
  each : ∀ (j k : Nat), E[j]? = some k → ∃ g c, v = .slice (some ⟨g, 0, none⟩) E.length c ∧ w.cell? ⟨g, j, none⟩ = some (.int .i64 (k : Int))
theorem own_ir {w : World} {base n : Nat} {v : Value} {E : List Nat} (h : w.ownsRow base 3 1 v n (iv E)) (hn : n = E.length) : Ir w v E := by
  subst hn
  refine ⟨own_shape h, fun j k hj => ?_⟩
  have hlt := (List.getElem?_eq_some_iff.1 hj).1
  rcases h.2 with ⟨_, h0⟩ | ⟨g, cap, cur, rfl, _⟩
  · omega
  · have := h.cells rfl j _ (iv_at hj)
    rw [add_none, Nat.zero_add] at this
    exact ⟨g, cap, rfl, this⟩
theorem Ir.keep {w w' : World} {v : Value} {E : List Nat} (h : Ir w v E) (hb : Below w.heap.size w w') : Ir w' v E :=
  ⟨h.top, fun j k hj => by obtain ⟨g, c, h1, h2⟩ := h.each j k hj; exact ⟨g, c, h1, by rw [hb.cell (lt_of_cell h2)]; exact h2⟩⟩

set_option maxHeartbeats 1000000 in
theorem same_any (u v : Value) (E : List Nat) (w : World) (hE : E.length ≤ 4398046511104) (HU : Hid (Ir w u E)) (HV : Hid (Ir w v E)) :
    Calls Try.prog 20 #[u, v] w fun e w' => e = .returned (.bool true) ∧ Below w.heap.size w w' := by
  obtain ⟨au, cu, hu⟩ := HU.out.top
  obtain ⟨av, cv, hv⟩ := HV.out.top
  subst hu hv
  go_enter Try.func20, Try.ntmps20
  go_wp2_with fail
  go_loopw [5] (fun x wr => ∃ i : Nat, x = .int .i64 i ∧ i ≤ E.length ∧ Below w.heap.size w wr) (fun x _ => E.length - (intOf x).toNat)
  case atStart => exact ⟨0, rfl, Nat.zero_le _, Below.refl _ _⟩
  case round =>
    obtain ⟨i, rfl, hi, hb⟩ := hrel
    have HB := Hid.mk' hb
    have hi0 : (0 : Int) ≤ (i : Int) := by omega
    by_cases hlt : i < E.length
    · obtain ⟨g, c, e1, h1⟩ := (HU.out.keep hb).each i _ (List.getElem?_eq_getElem hlt)
      obtain ⟨g2, c2, e2, h2⟩ := (HV.out.keep hb).each i _ (List.getElem?_eq_getElem hlt)
      have x1 : au = some ⟨g, 0, none⟩ := by simp at e1; exact e1.1
      have x2 : av = some ⟨g2, 0, none⟩ := by simp at e2; exact e2.1
      subst x1 x2
      generalize E[i] = k at *
      have hiK : (i : Int) < (E.length : Int) := by omega
      clear e1 e2 hb
      go_wp2
      go_quiet (fail)
      go_wp2
      go_roundw
      case rel => exact ⟨i + 1, by go_num, by omega, bT HB.out (below_drewN _ _)⟩
      case measure => first | (simp [intOf]; done) | (simp [intOf]; omega)
    · have hiK : ¬ (i : Int) < (E.length : Int) := by omega
      go_wp2
      go_ret
      exact ⟨rfl, HB.out⟩

set_option maxHeartbeats 1000000 in
theorem classRuns_walk (ao : Option Addr) (n c : Nat) (l : List UInt8) (big : Bool) (w : World) (hn : n ≤ 4398046511104) (HT : Hid (Tx w ao n c l)) :
    Calls Try.prog 4 #[.slice ao n c, .bool big] w fun e w' => e = .returned (.bool true) ∧ Below w.heap.size w w' := by
  go_enter Try.func4, Try.ntmps4
  go_wp2_with fail
  refine (awake_any _).mono ?_
  rintro e w' ⟨rfl, hw⟩; have hq := hw.symm; subst hq; clear hw
  go_wp2_with fail
  refine (rruns_any ao n c l big _ hn HT).mono ?_
  rintro e w2 ⟨v2, rfl, hO2, hb2⟩
  have T2 := Hid.mk' (HT.out.keep hb2)
  obtain ⟨a2, c2, e2⟩ := own_shape hO2
  subst e2
  have I2 := Hid.mk' (own_ir hO2 rfl)
  clear hO2
  go_wp2_with fail
  refine (runs_any ao n c l big _ hn T2).mono ?_
  rintro e w3 ⟨v3, rfl, hO3, hb3⟩
  have I23 := Hid.mk' (I2.out.keep hb3)
  obtain ⟨a3, c3, e3⟩ := own_shape hO3
  subst e3
  have I3 := Hid.mk' (own_ir hO3 rfl)
  have HR := rn_len (kn l big) n n
  clear hO3
  go_wp2_with fail
  refine (same_any _ _ _ _ (by omega) I3 I23).mono ?_
  rintro e w4 ⟨rfl, hb4⟩
  go_wp2
  go_ret
  exact ⟨rfl, bT (bT hb2 hb3) hb4⟩
end Go.Proofs.Ytcjlkcpmljddfaa
