/- The law's lent and whole. -/
import Derived.Test.YtmhpeppbhjpkiaaGreatPm43
namespace Go.Proofs.YtmhpeppbhjpkiaaGreat
open Go.RowKit

theorem rd_srcL {W : World} {ao : Option Addr} {c : Nat} {l : List UInt8} (h : Ab.Rd W (.slice ao l.length c) l) : (ao = none ∧ l.length = 0 ∧ c = 0) ∨ ∃ ad, ao = some ad ∧ ∀ j u, (Ab.bv l)[j]? = some u → W.cell? (ad.add j) = some u := by
  rcases h with ⟨h1, h2⟩ | ⟨a, c', h1, h2⟩
  · simp at h1; exact .inl ⟨h1.1, by rw [h2]; rfl, h1.2.2⟩
  · simp at h1; exact .inr ⟨a, h1.1, h2⟩
/-- the two bytes behind what is lent -/
def mk2 : List Value := [.int .u8 77, .int .u8 78]
set_option maxRecDepth 100000 in
set_option maxHeartbeats 800000 in
theorem lent_any (ao : Option Addr) (c : Nat) (l : List UInt8) (w : World) (hbig : l.length ≤ 16777216) (h : Hid (Ab.Rd w (.slice ao l.length c) l)) :
    Calls Tryz.prog 5 #[.slice ao l.length c] w fun e w' => ∃ g cap, e = .returned (.slice (some ⟨g, 0, none⟩) l.length cap) ∧ w'.ownsRow w.heap.size 5 1 (.slice (some ⟨g, 0, none⟩) (l.length + 2) cap) (l.length + 2) (Ab.bv l ++ mk2) ∧ Below w.heap.size w w' := by
  obtain ⟨i0, hi, hz0, hz1, hz2⟩ := info_parts Ab.info5
  go_enter Tryz.func5, Tryz.ntmps5
  go_wp2_with (at_builtin; refine Rk.append_srv rfl (.tmp 3) (.tmp 4) 22 rfl w.heap.size 5 i0 (.int .u8 0) 1 1 Tryz.underlying22 hi hz0 hz1 hz2 rfl (by decide) (.slice (some ⟨w.heap.size, 0, none⟩) 0 0) 0 [] rfl (World.ownsRow_made w #[] 0 (Nat.le_refl _) (Nat.zero_le _) rfl) (.slice ao l.length c) l.length (Ab.bv l) rfl (rd_srvK (h.out.keep (bAlloc (Below.refl _ _) _)) rfl) (by rw [Ab.bv_length, Nat.mul_one]) (Ab.bv_one l) (by unfold maxLen; omega) (by omega) (by simp) ?_)
  intro v1 w1 hown hgrow _
  have HW1 : Hid (w1.ownsRow w.heap.size 5 1 v1 l.length (Ab.bv l)) := by unfold Hid; simpa using hown
  have L1 : Hid (Below w.heap.size w w1) := ((Below.refl _ w).alloc (Nat.le_refl _) _).grown hgrow (by simp) (by intro k hk; simp [Value.ownBlock] at hk; omega)
  clear hown hgrow
  go_wp2_with (at_builtin; refine Rk.append_srv rfl (.tmp 5) (.tmp 6) 22 rfl w.heap.size 5 i0 (.int .u8 0) 1 1 Tryz.underlying22 hi hz0 hz1 hz2 rfl (by decide) v1 l.length (Ab.bv l) rfl (HW1.out.alloc _) (.slice (some ⟨w1.heap.size, 0, none⟩) 2 2) 2 [.int .u8 77, .int .u8 78] rfl (.inr ⟨⟨w1.heap.size, 0, none⟩, 2, rfl, fun k u hk => lit_cells w1 _ 5 k u hk⟩) rfl (by intro u hu; simp at hu; rcases hu with rfl | rfl <;> rfl) (by unfold maxLen; omega) (by omega) (by have := L1.out.size; simp; omega) ?_)
  intro v2 w2 hown hgrow _
  have L2 : Hid (Below w.heap.size w w2) := (bAlloc L1.out _).grown hgrow (by have := L1.out.size; simp; omega) (fun k hk => (HW1.out.lt k hk).1)
  obtain ⟨g, cap, rfl, hc1, hc2⟩ := Ab.own_some hown (by omega)
  have HW2 : Hid (w2.ownsRow w.heap.size 5 1 (.slice (some ⟨g, 0, none⟩) (l.length + 2) cap) (l.length + 2) (Ab.bv l ++ mk2)) := hown
  have hx0 : (0 : Int) ≤ (l.length : Int) := by omega
  have hx1 : (l.length : Int) ≤ (cap : Int) := by omega
  have hx2 : ¬ cap = 0 := by omega
  clear hown hgrow hc2
  go_wp2
  go_ret
  exact ⟨_, _, rfl, HW2.out, L2.out⟩
/-- what is lent reads as what came in -/
theorem lent_rd {w : World} {g cap base : Nat} {l : List UInt8} (hW : w.ownsRow base 5 1 (.slice (some ⟨g, 0, none⟩) (l.length + 2) cap) (l.length + 2) (Ab.bv l ++ mk2)) : Ab.Rd w (.slice (some ⟨g, 0, none⟩) l.length cap) l := by
  refine .inr ⟨_, cap, rfl, fun j u hu => ?_⟩
  have hj : j < l.length := by have := (List.getElem?_eq_some_iff.1 hu).1; rw [Ab.bv_length] at this; exact this
  have hadd : (⟨g, 0, none⟩ : Addr).add j = ⟨g, j, none⟩ := by unfold Addr.add; split <;> simp_all
  rw [hadd, hW.cellAt j (by omega), List.getElem?_append_left (by rw [Ab.bv_length]; exact hj)]; exact hu
set_option maxRecDepth 100000 in
set_option maxHeartbeats 800000 in
theorem whole_any (g cap : Nat) (ao : Option Addr) (c base : Nat) (l : List UInt8) (w : World) (hbig : l.length ≤ 16777216) (h : Hid (Ab.Rd w (.slice ao l.length c) l)) (hW : Hid (w.ownsRow base 5 1 (.slice (some ⟨g, 0, none⟩) (l.length + 2) cap) (l.length + 2) (Ab.bv l ++ mk2))) :
    Calls Tryz.prog 7 #[.slice (some ⟨g, 0, none⟩) l.length cap, .slice ao l.length c] w fun e w' => e = .returned (.bool true) ∧ w' = w := by
  obtain ⟨g', cap', hv, hc1, hc2⟩ := Ab.own_some hW.out (by omega)
  have hcap : l.length + 2 ≤ cap := by simp at hv; omega
  have hr := lent_rd hW.out
  have v1 := conv_rd hr
  have v2 := conv_rd h.out
  have q0 : w.cell? ⟨g, l.length, none⟩ = some (.int .u8 77) := by
    rw [hW.out.cellAt l.length (by omega), List.getElem?_append_right (by rw [Ab.bv_length]; exact Nat.le_refl _), Ab.bv_length]; simp [mk2]
  have q1 : w.cell? ⟨g, l.length + 1, none⟩ = some (.int .u8 78) := by
    rw [hW.out.cellAt (l.length + 1) (by omega), List.getElem?_append_right (by rw [Ab.bv_length]; omega), Ab.bv_length]; simp [mk2]
  have x0 : (0 : Int) ≤ (l.length : Int) + 2 := by omega
  have x1 : (l.length : Int) + 2 ≤ (cap : Int) := by omega
  have x2 : ¬ cap = 0 := by omega
  clear hr hv hc1 hc2
  go_enter Tryz.func7, Tryz.ntmps7
  go_wp2
  go_ret
  exact ⟨rfl, rfl⟩

end Go.Proofs.YtmhpeppbhjpkiaaGreat

