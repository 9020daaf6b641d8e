/- The law's lies and about. -/
import Derived.Test.YtgdhdegmjljbfaaHpr
import Derived.Test.YtgdhdegmjljbfaaAwk
namespace Go.Proofs.Ytgdhdegmjljbfaa
open Go.RowKit
set_option maxRecDepth 8000 in
set_option maxHeartbeats 8000000 in
theorem lies_any (ao : Option Addr) (n c : Nat) (l : List UInt8) (F T K e k : Int) (w : World) (h : ly l F T K e k) (HT : Hid (Tx w ao n c l)) :
    Calls Try.prog 13 #[.slice ao n c, .agg #[.int .i64 F, .int .i64 T, .int .i64 K], .int .i64 e, .int .i32 k] w fun x w' => x = .returned (.bool true) ∧ Below w.heap.size w w' := by
  have hlen := HT.out.len
  have hbig := HT.out.big
  rcases h with ⟨rfl, rfl, rfl, rfl⟩ | ⟨rfl, f, t, rfl, rfl, h1, h2, h3⟩
  · go_enter Try.func13, Try.ntmps13
    go_wp2
    all_goals go_ret
    all_goals exact ⟨rfl, bAlloc (Below.refl _ _) _⟩
  · have f0 : ¬ ((f : Int) < 0) := by omega
    have f1 : ¬ ((t : Int) < (f : Int)) := by omega
    have f2 : (t : Int) ≤ (n : Int) := by omega
    rcases h3 with ⟨rfl, rfl, e1, e2⟩ | ⟨hk, rfl⟩
    · have hwf : IntKind.i64.wrap ((f : Int) - 1) = (f : Int) - 1 := by rw [IntKind.wrap_i64]; omega
      have hwt : IntKind.i64.wrap ((t : Int) - 1) = (t : Int) - 1 := by rw [IntKind.wrap_i64]; omega
      have HA : ∀ x : Nat, (x = 0 ∨ bi l (x - 1) = 10) → x ≤ n → ((x : Int) == 0) = true ∨ (((x : Int) == 0) = false ∧ ∃ g o, ao = some ⟨g, o, none⟩ ∧ 0 ≤ (x : Int) - 1 ∧ (x : Int) - 1 < (n : Int) ∧ ((x : Int) - 1).toNat = x - 1 ∧ w.cell? ⟨g, o + (x - 1), none⟩ = some (.int .u8 10) ∧ g < w.heap.size) := by
        intro x hx hxn
        rcases Nat.eq_zero_or_pos x with h | h
        · exact .inl (by simp [h])
        · right
          obtain ⟨g, o, e9, hc⟩ := HT.out.at (by omega)
          rcases hx with hx | hx
          · omega
          · have hc1 := hc (x - 1) (by omega)
            have hx' : ((at8 l (x - 1)).toNat : Int) = 10 := hx
            rw [hx'] at hc1
            exact ⟨by simp; omega, g, o, e9, by omega, by omega, by omega, hc1, lt_of_cell hc1⟩
      have HF := HA f e1 (by omega)
      have HTt := HA t e2 (by omega)
      clear HA e1 e2 f0 f1
      have f0 : (0 : Int) ≤ (f : Int) := by omega
      have f1 : (f : Int) ≤ (t : Int) := by omega
      rcases HF with z1 | ⟨z1, g1, o1, rfl, z2, z3, z4, z5, z6⟩
      · rcases HTt with y1 | ⟨y1, g2, o2, rfl, y2, y3, y4, y5, y6⟩
        all_goals go_enter Try.func13, Try.ntmps13
        all_goals go_wp2
        all_goals go_ret
        all_goals exact ⟨rfl, bAlloc (Below.refl _ _) _⟩
      · rcases HTt with y1 | ⟨y1, g2, o2, y0, y2, y3, y4, y5, y6⟩
        · go_enter Try.func13, Try.ntmps13
          go_wp2
          all_goals go_ret
          all_goals exact ⟨rfl, bAlloc (Below.refl _ _) _⟩
        · cases y0
          go_enter Try.func13, Try.ntmps13
          go_wp2
          all_goals go_ret
          all_goals exact ⟨rfl, bAlloc (Below.refl _ _) _⟩
    · have hk1 : (k != 112) = true := by simp; omega
      have hk2 : (k == 112) = false := by simp; omega
      clear f0 f1 hk
      have f0 : (0 : Int) ≤ (f : Int) := by omega
      have f1 : (f : Int) ≤ (t : Int) := by omega
      go_enter Try.func13, Try.ntmps13
      go_wp2
      all_goals go_ret
      all_goals exact ⟨rfl, bAlloc (Below.refl _ _) _⟩
set_option maxRecDepth 8000 in
set_option maxHeartbeats 8000000 in
theorem about_any (x y k : Int) (w : World) (h : ab x y k) : Calls Try.prog 14 #[.int .u8 x, .int .u8 y, .int .u8 k] w fun e w' => e = .returned (.bool true) ∧ w' = w := by
  rcases h with ⟨hk, rfl, rfl⟩ | ⟨hk, rfl, rfl⟩
  · rcases hk with rfl | rfl | rfl
    all_goals go_enter Try.func14, Try.ntmps14
    all_goals go_wp2
    all_goals go_ret
    all_goals exact ⟨rfl, rfl⟩
  · rcases hk with rfl | rfl | rfl | rfl | rfl | rfl | rfl | rfl
    all_goals unfold op cp
    all_goals simp only [Int.reduceEq, or_self, or_true, if_true, if_false, or_false]
    all_goals go_enter Try.func14, Try.ntmps14
    all_goals go_wp2
    all_goals go_ret
    all_goals exact ⟨rfl, rfl⟩
end Go.Proofs.Ytgdhdegmjljbfaa
