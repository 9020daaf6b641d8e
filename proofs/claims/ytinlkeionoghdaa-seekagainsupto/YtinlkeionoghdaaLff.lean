/- The contract of seek's leads, of one of the keys. -/
import Derived.Test.YtinlkeionoghdaaHu
import Derived.Deep.LoopGhost
import Derived.Deep.CutRange
namespace Go.Proofs.Ytinlkeionoghdaa
open Go.RowKit

set_option maxHeartbeats 2000000 in
theorem leads_3 (ao : Option Addr) (n c p m sk : Nat) (cnt b : Int) (l : List UInt8) (w : World) (hp : p ≤ n) (hsk : sk ≤ 1) (hm : max cnt 1 = (m : Int)) (hN : m ≤ 9999) (HT : Hid (Tx w ao n c l)) :
    Calls Try.prog 20 #[.agg #[.int .i64 (-1), .int .i64 0, .int .i64 1], .slice ao n c, .int .i64 p, .int .i64 ((p : Int) - 1 - (sk : Nat)), .int .i64 cnt, .int .u8 b] w fun e w' => e = mvE (res p 3 (hit l b p m sk 3)) ∧ Below w.heap.size w w' := by
  have hbig : (n : Int) ≤ 140737488355328 := by have := HT.out.big; omega
  have hl := HT.out.len
  obtain ⟨A, hA⟩ : ∃ A, A = hit l b p m sk 3 := ⟨_, rfl⟩
  rw [← hA]
  have HA : Hid ((hd (isb l b) (p - sk - bg l p) (p - sk))[m - 1]? = A) := hA.symm
  clear hA
  have hE1 : en l (bg l p) ≤ n := by rw [← hl]; exact en_le (by have := bg_le l p; omega)
  have hB1 : bg l p ≤ p := bg_le l p
  have hB2 : bg l p ≤ n := by omega
  have LA := Hid.mk' (fun x y => lineAbout_any ao n c p l ((w.alloc x).alloc y) hp (HT.out.keep (bAlloc (bAlloc (Below.refl _ _) _) _)))
  have hE2 : p ≤ en l (bg l p) := place_en (by omega)
  generalize en l (bg l p) = E at *
  generalize bg l p = B at *
  have hm1 : 1 ≤ m := by omega
  go_enter Try.func20, Try.ntmps20
  go_wp2_with fail
  refine (LA.out _ _).mono ?_
  rintro e w1 ⟨rfl, hb1⟩
  obtain ⟨hc1, hf1⟩ := bcell hb1
  have hz : w.heap.size + 1 < w1.heap.size := by have := hb1.size; simp at this; omega
  have hz' : w.heap.size < w1.heap.size := by omega
  have T1 := Hid.mk' (HT.out.keep (bT (bAlloc (bAlloc (Below.refl _ _) _) _) hb1))
  have B1 := Hid.mk' (bT (bAlloc (bAlloc (Below.refl _ _) _) _) hb1)
  have m0 : w1.cell? ⟨w.heap.size, 0, none⟩ = some (.int .i64 (-1)) := by rw [hc1 _ _ (by simp; omega)]; simp [go_sem]
  have m1 : w1.cell? ⟨w.heap.size, 1, none⟩ = some (.int .i64 0) := by rw [hc1 _ _ (by simp; omega)]; simp [go_sem]
  have m2 : w1.cell? ⟨w.heap.size, 2, none⟩ = some (.int .i64 1) := by rw [hc1 _ _ (by simp; omega)]; simp [go_sem]
  clear hb1
  go_wp2
  go_loopg [16, 17] (p - sk - B) (fun g x16 x17 wx => ∃ (q : Int) (left : Nat), x16 = .int .i64 left ∧ x17 = .int .i64 q ∧ (q = (B : Int) + g - 1 ∨ (g = 0 ∧ q < (B : Int))) ∧ q < (p : Int) ∧ -2 ≤ q ∧ 1 ≤ left ∧ left ≤ 9999 ∧ Hid ((hd (isb l b) g (B + g))[left - 1]? = A) ∧ w1 = wx)
  case atStart =>
    refine ⟨(p : Int) - 1 - (sk : Nat), m, rfl, rfl, by omega, by omega, by omega, hm1, hN, ?_, rfl⟩
    unfold Hid
    by_cases hx : B ≤ p - sk
    · rw [show B + (p - sk - B) = p - sk from by omega]; exact HA.out
    · have h0 : p - sk - B = 0 := by omega
      have := HA.out
      rw [h0] at this ⊢
      exact this
  case round =>
    obtain ⟨q, left, rfl, rfl, hq, hpq, hqn, hl1, hl2, HI, rfl⟩ := hrel
    cases gk with
    | zero =>
      have hqz : ¬ ((B : Int) ≤ q) := by omega
      obtain rfl : A = none := by have := HI.out; rw [← this]; rfl
      go_wp2
      exact bodyPost_ret (v := .tuple #[.agg #[.int .i64 0, .int .i64 0, .int .i64 0], .int .i64 70]) (by simp [results, Try.results20, go_sem, hc1]) rfl ⟨rfl, by repeat (first | exact B1.out | refine bset ?_ _ (by simp))⟩
    | succ g =>
      obtain ⟨q, rfl⟩ : ∃ k : Nat, q = (k : Int) := ⟨q.toNat, by omega⟩
      have eq : Hid (q = B + g) := by unfold Hid; omega
      have hq0 : (0 : Int) ≤ (q : Int) := by omega
      have hq1 : (q : Int) ≤ 140737488355330 := by omega
      have hqz : (B : Int) ≤ (q : Int) := by omega
      have hqE : (q : Int) < (E : Int) := by omega
      have hqn1 : (q : Int) < (n : Int) := by omega
      obtain ⟨gg, o, rfl, hcl⟩ := T1.out.at (by omega)
      have hc0 := hcl q (by omega)
      clear hcl
      have hl0 : (0 : Int) ≤ (left : Int) := by omega
      have hl9 : (left : Int) ≤ 9999 := by omega
      cases hs : isb l b q with
      | false =>
        have HK : Hid ((hd (isb l b) g (B + g))[left - 1]? = A) := by have := HI.out; rw [show B + (g + 1) = q + 1 from by omega, hd_no hs, eq.out] at this; exact this
        have hne : (((at8 l q).toNat : Int) != b) = true := by unfold isb at hs; simp only [bne, hs]; rfl
        clear hs
        go_wp2
        go_roundg g
        case measure => omega
        case rel => exact ⟨(q : Int) - 1, left, rfl, by go_num, by omega, by omega, by omega, hl1, hl2, HK.out, rfl⟩
      | true =>
        have hne : (((at8 l q).toNat : Int) != b) = false := by unfold isb at hs; simp only [bne, hs]; rfl
        rcases Nat.lt_or_ge 1 left with h1 | h1
        · have HK : Hid ((hd (isb l b) g (B + g))[(left - 1) - 1]? = A) := by
            have := HI.out; rw [show B + (g + 1) = q + 1 from by omega, hd_yes hs, eq.out] at this
            obtain ⟨j, rfl⟩ : ∃ j, left = j + 2 := ⟨left - 2, by omega⟩
            exact this
          have hnz : ((left : Int) - 1 == 0) = false := by simp; omega
          clear hs
          go_wp2
          go_roundg g
          case measure => omega
          case rel => exact ⟨(q : Int) - 1, left - 1, by go_num, by go_num, by omega, by omega, by omega, by omega, by omega, HK.out, rfl⟩
        · obtain rfl : left = 1 := by omega
          obtain rfl : A = some q := by have := HI.out; rw [show B + (g + 1) = q + 1 from by omega, hd_yes hs] at this; exact this.symm
          clear hs HI
          go_wp2
          exact bodyPost_ret (v := .tuple #[.agg #[.int .i64 p, .int .i64 (q : Int), .int .i64 1], .int .i64 0]) (by simp [results, Try.results20, go_sem, hc1]) rfl ⟨by first | rfl | (simp [mvE, res, tov, wy, sh, kd]; done), by repeat (first | exact B1.out | refine bset ?_ _ (by simp))⟩
end Go.Proofs.Ytinlkeionoghdaa
