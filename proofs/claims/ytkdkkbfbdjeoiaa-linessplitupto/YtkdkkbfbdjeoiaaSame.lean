/- The contract of quoinlaw05.sameLists: two lists of the same lists. -/
import Derived.Test.YtkdkkbfbdjeoiaaLists
namespace Go.Proofs.Ytkdkkbfbdjeoiaa
open Go.RowKit

set_option maxHeartbeats 1000000 in
theorem same_any (u v : Value) (K : Nat) (f : Nat → List UInt8) (w : World) (hK : K ≤ 4398046511104) (HU : Hid (Ls w u K f)) (HV : Hid (Ls w v K f)) :
    Calls Try.prog 27 #[u, v] w fun e w' => e = .returned (.bool true) ∧ Below w.heap.size w w' := by
  obtain ⟨au, cu, hu⟩ := HU.out.top
  obtain ⟨av, cv, hv⟩ := HV.out.top
  subst hu hv
  go_enter Try.func27, Try.ntmps27
  go_wp2_with fail
  go_loopw [5] (fun x wr => ∃ i : Nat, x = .int .i64 i ∧ i ≤ K ∧ Below w.heap.size w wr) (fun x _ => K - (intOf x).toNat)
  case atStart => exact ⟨0, rfl, Nat.zero_le _, Below.refl _ _⟩
  case round =>
    obtain ⟨i, rfl, hi, hb⟩ := hrel
    have HB := Hid.mk' hb
    have hi0 : (0 : Int) ≤ (i : Int) := by omega
    by_cases hlt : i < K
    · obtain ⟨g, c, ai, ci, e1, h1, t1⟩ := (HU.out.keep hb).each i hlt
      obtain ⟨g2, c2, bi, di, e2, h2, t2⟩ := (HV.out.keep hb).each i hlt
      have x1 : au = some ⟨g, 0, none⟩ := by simp at e1; exact e1.1
      have x2 : av = some ⟨g2, 0, none⟩ := by simp at e2; exact e2.1
      subst x1 x2
      have V1 := conv_drew t1
      have V2 := conv_drew t2
      have hiK : (i : Int) < (K : Int) := by omega
      clear e1 e2 t1 t2 hb
      go_wp2
      go_quiet (fail)
      go_wp2
      go_roundw
      case rel => exact ⟨i + 1, by go_num, by omega, bT HB.out (below_drewN _ _)⟩
      case measure => first | (simp [intOf]; done) | (simp [intOf]; omega)
    · have hiK : ¬ (i : Int) < (K : Int) := by omega
      go_wp2
      go_ret
      exact ⟨rfl, HB.out⟩
end Go.Proofs.Ytkdkkbfbdjeoiaa
