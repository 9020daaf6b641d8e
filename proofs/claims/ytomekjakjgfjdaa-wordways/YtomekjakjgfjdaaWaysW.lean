/- The walk of quoinlaw08.WordWays: it answers true for every text, place and count. -/
import Derived.Test.YtomekjakjgfjdaaSteps
namespace Go.Proofs.Ytomekjakjgfjdaa
open Go.RowKit

theorem way_0 (l : List UInt8) (i cnt : Int) : (∃ z : Int, (z = 2 ∨ z = 70) ∧ mv l i cnt { data := #[119] } = ⟨0, 0, 0, z⟩) ∨ ∃ a q : Nat, i = (a : Int) ∧ q ≤ l.length ∧ mv l i cnt { data := #[119] } = ⟨a, q, 1, 0⟩ ∧ a < q := by
  have hk : kn { data := #[119] } = 1 := by decide +kernel
  rcases mv_ways l i cnt { data := #[119] } with h | ⟨a, q, h1, h2, h3, h4, h5, h6⟩
  · exact .inl h
  · rw [hk] at h4 h5 h6
    exact .inr ⟨a, q, h1, h2, h4, h5 rfl⟩
theorem way_1 (l : List UInt8) (i cnt : Int) : (∃ z : Int, (z = 2 ∨ z = 70) ∧ mv l i cnt { data := #[87] } = ⟨0, 0, 0, z⟩) ∨ ∃ a q : Nat, i = (a : Int) ∧ q ≤ l.length ∧ mv l i cnt { data := #[87] } = ⟨a, q, 1, 0⟩ ∧ a < q := by
  have hk : kn { data := #[87] } = 2 := by decide +kernel
  rcases mv_ways l i cnt { data := #[87] } with h | ⟨a, q, h1, h2, h3, h4, h5, h6⟩
  · exact .inl h
  · rw [hk] at h4 h5 h6
    exact .inr ⟨a, q, h1, h2, h4, h5 rfl⟩
theorem way_2 (l : List UInt8) (i cnt : Int) : (∃ z : Int, (z = 2 ∨ z = 70) ∧ mv l i cnt { data := #[101] } = ⟨0, 0, 0, z⟩) ∨ ∃ a q : Nat, i = (a : Int) ∧ q ≤ l.length ∧ mv l i cnt { data := #[101] } = ⟨a, q, 2, 0⟩ ∧ a < q := by
  have hk : kn { data := #[101] } = 5 := by decide +kernel
  rcases mv_ways l i cnt { data := #[101] } with h | ⟨a, q, h1, h2, h3, h4, h5, h6⟩
  · exact .inl h
  · rw [hk] at h4 h5 h6
    exact .inr ⟨a, q, h1, h2, h4, h5 rfl⟩
theorem way_3 (l : List UInt8) (i cnt : Int) : (∃ z : Int, (z = 2 ∨ z = 70) ∧ mv l i cnt { data := #[69] } = ⟨0, 0, 0, z⟩) ∨ ∃ a q : Nat, i = (a : Int) ∧ q ≤ l.length ∧ mv l i cnt { data := #[69] } = ⟨a, q, 2, 0⟩ ∧ a < q := by
  have hk : kn { data := #[69] } = 6 := by decide +kernel
  rcases mv_ways l i cnt { data := #[69] } with h | ⟨a, q, h1, h2, h3, h4, h5, h6⟩
  · exact .inl h
  · rw [hk] at h4 h5 h6
    exact .inr ⟨a, q, h1, h2, h4, h5 rfl⟩
theorem way_4 (l : List UInt8) (i cnt : Int) : (∃ z : Int, (z = 2 ∨ z = 70) ∧ mv l i cnt { data := #[98] } = ⟨0, 0, 0, z⟩) ∨ ∃ a q : Nat, i = (a : Int) ∧ q ≤ l.length ∧ mv l i cnt { data := #[98] } = ⟨a, q, 1, 0⟩ ∧ q < a := by
  have hk : kn { data := #[98] } = 3 := by decide +kernel
  rcases mv_ways l i cnt { data := #[98] } with h | ⟨a, q, h1, h2, h3, h4, h5, h6⟩
  · exact .inl h
  · rw [hk] at h4 h5 h6
    exact .inr ⟨a, q, h1, h2, h4, h6 rfl⟩
theorem way_5 (l : List UInt8) (i cnt : Int) : (∃ z : Int, (z = 2 ∨ z = 70) ∧ mv l i cnt { data := #[66] } = ⟨0, 0, 0, z⟩) ∨ ∃ a q : Nat, i = (a : Int) ∧ q ≤ l.length ∧ mv l i cnt { data := #[66] } = ⟨a, q, 1, 0⟩ ∧ q < a := by
  have hk : kn { data := #[66] } = 4 := by decide +kernel
  rcases mv_ways l i cnt { data := #[66] } with h | ⟨a, q, h1, h2, h3, h4, h5, h6⟩
  · exact .inl h
  · rw [hk] at h4 h5 h6
    exact .inr ⟨a, q, h1, h2, h4, h6 rfl⟩
theorem way_6 (l : List UInt8) (i cnt : Int) : (∃ z : Int, (z = 2 ∨ z = 70) ∧ mv l i cnt { data := #[103, 101] } = ⟨0, 0, 0, z⟩) ∨ ∃ a q : Nat, i = (a : Int) ∧ q ≤ l.length ∧ mv l i cnt { data := #[103, 101] } = ⟨a, q, 2, 0⟩ ∧ q < a := by
  have hk : kn { data := #[103, 101] } = 7 := by decide +kernel
  rcases mv_ways l i cnt { data := #[103, 101] } with h | ⟨a, q, h1, h2, h3, h4, h5, h6⟩
  · exact .inl h
  · rw [hk] at h4 h5 h6
    exact .inr ⟨a, q, h1, h2, h4, h6 rfl⟩
theorem way_7 (l : List UInt8) (i cnt : Int) : (∃ z : Int, (z = 2 ∨ z = 70) ∧ mv l i cnt { data := #[103, 69] } = ⟨0, 0, 0, z⟩) ∨ ∃ a q : Nat, i = (a : Int) ∧ q ≤ l.length ∧ mv l i cnt { data := #[103, 69] } = ⟨a, q, 2, 0⟩ ∧ q < a := by
  have hk : kn { data := #[103, 69] } = 8 := by decide +kernel
  rcases mv_ways l i cnt { data := #[103, 69] } with h | ⟨a, q, h1, h2, h3, h4, h5, h6⟩
  · exact .inl h
  · rw [hk] at h4 h5 h6
    exact .inr ⟨a, q, h1, h2, h4, h6 rfl⟩
set_option maxRecDepth 4000 in
set_option maxHeartbeats 4000000 in
theorem wordWays_walk (ao : Option Addr) (n c : Nat) (i cnt : Int) (l : List UInt8) (w : World) (HT : Hid (Tx w ao n c l)) :
    Calls Try.prog 5 #[.slice ao n c, .int .i64 i, .int .i64 cnt] w fun e w' => e = .returned (.bool true) ∧ Below w.heap.size w w' := by
  have hlen := Hid.mk' HT.out.len
  have hbig : (n : Int) ≤ 140737488355328 := by have := HT.out.big; omega
  go_enter Try.func5, Try.ntmps5
  go_wp2_with fail
  refine (alive_any _).mono ?_
  rintro e w1 ⟨rfl, hb1⟩
  have B1 := Hid.mk' hb1
  clear hb1
  go_wp2_with fail
  have BA := Hid.mk' (bAlloc B1.out (.cells #[.string { data := #[119] }, .string { data := #[87] }, .string { data := #[101] }, .string { data := #[69] }, .string { data := #[98] }, .string { data := #[66] }, .string { data := #[103, 101] }, .string { data := #[103, 69] }] 9))
  have k0 : (w1.alloc (.cells #[.string { data := #[119] }, .string { data := #[87] }, .string { data := #[101] }, .string { data := #[69] }, .string { data := #[98] }, .string { data := #[66] }, .string { data := #[103, 101] }, .string { data := #[103, 69] }] 9)).cell? ⟨w1.heap.size, 0, none⟩ = some (.string { data := #[119] }) := by simp [go_sem]
  have k1 : (w1.alloc (.cells #[.string { data := #[119] }, .string { data := #[87] }, .string { data := #[101] }, .string { data := #[69] }, .string { data := #[98] }, .string { data := #[66] }, .string { data := #[103, 101] }, .string { data := #[103, 69] }] 9)).cell? ⟨w1.heap.size, 1, none⟩ = some (.string { data := #[87] }) := by simp [go_sem]
  have k2 : (w1.alloc (.cells #[.string { data := #[119] }, .string { data := #[87] }, .string { data := #[101] }, .string { data := #[69] }, .string { data := #[98] }, .string { data := #[66] }, .string { data := #[103, 101] }, .string { data := #[103, 69] }] 9)).cell? ⟨w1.heap.size, 2, none⟩ = some (.string { data := #[101] }) := by simp [go_sem]
  have k3 : (w1.alloc (.cells #[.string { data := #[119] }, .string { data := #[87] }, .string { data := #[101] }, .string { data := #[69] }, .string { data := #[98] }, .string { data := #[66] }, .string { data := #[103, 101] }, .string { data := #[103, 69] }] 9)).cell? ⟨w1.heap.size, 3, none⟩ = some (.string { data := #[69] }) := by simp [go_sem]
  have k4 : (w1.alloc (.cells #[.string { data := #[119] }, .string { data := #[87] }, .string { data := #[101] }, .string { data := #[69] }, .string { data := #[98] }, .string { data := #[66] }, .string { data := #[103, 101] }, .string { data := #[103, 69] }] 9)).cell? ⟨w1.heap.size, 4, none⟩ = some (.string { data := #[98] }) := by simp [go_sem]
  have k5 : (w1.alloc (.cells #[.string { data := #[119] }, .string { data := #[87] }, .string { data := #[101] }, .string { data := #[69] }, .string { data := #[98] }, .string { data := #[66] }, .string { data := #[103, 101] }, .string { data := #[103, 69] }] 9)).cell? ⟨w1.heap.size, 5, none⟩ = some (.string { data := #[66] }) := by simp [go_sem]
  have k6 : (w1.alloc (.cells #[.string { data := #[119] }, .string { data := #[87] }, .string { data := #[101] }, .string { data := #[69] }, .string { data := #[98] }, .string { data := #[66] }, .string { data := #[103, 101] }, .string { data := #[103, 69] }] 9)).cell? ⟨w1.heap.size, 6, none⟩ = some (.string { data := #[103, 101] }) := by simp [go_sem]
  have k7 : (w1.alloc (.cells #[.string { data := #[119] }, .string { data := #[87] }, .string { data := #[101] }, .string { data := #[69] }, .string { data := #[98] }, .string { data := #[66] }, .string { data := #[103, 101] }, .string { data := #[103, 69] }] 9)).cell? ⟨w1.heap.size, 7, none⟩ = some (.string { data := #[103, 69] }) := by simp [go_sem]
  generalize w1.alloc (.cells #[.string { data := #[119] }, .string { data := #[87] }, .string { data := #[101] }, .string { data := #[69] }, .string { data := #[98] }, .string { data := #[66] }, .string { data := #[103, 101] }, .string { data := #[103, 69] }] 9) = W1 at *
  go_loopw [8] (fun u wr => ∃ t : Nat, u = .int .i64 t ∧ t ≤ 8 ∧ Below W1.heap.size W1 wr) (fun u _ => 8 - (intOf u).toNat)
  case atStart => exact ⟨0, rfl, by omega, Below.refl _ _⟩
  case round =>
    obtain ⟨t, rfl, ht, hB⟩ := hrel
    have TR := Hid.mk' (HT.out.keep (bT BA.out hB))
    have HB := Hid.mk' hB
    replace k0 := keepC hB k0
    replace k1 := keepC hB k1
    replace k2 := keepC hB k2
    replace k3 := keepC hB k3
    replace k4 := keepC hB k4
    replace k5 := keepC hB k5
    replace k6 := keepC hB k6
    replace k7 := keepC hB k7
    clear hB
    have ht' : t = 0 ∨ t = 1 ∨ t = 2 ∨ t = 3 ∨ t = 4 ∨ t = 5 ∨ t = 6 ∨ t = 7 ∨ t = 8 := by omega
    rcases ht' with rfl | rfl | rfl | rfl | rfl | rfl | rfl | rfl | rfl
    · go_wp2_with fail
      refine (move_any ao n c i cnt l _ _ TR).mono ?_
      rintro e w2 ⟨rfl, hb2⟩
      have B2 := Hid.mk' (bT HB.out hb2)
      clear hb2
      rcases way_0 l i cnt with ⟨z, hz, e1⟩ | ⟨a, q, rfl, hq, e1, hw⟩
      · rw [e1, mvE_def]
        have hz' : (z != 0) = true := by rcases hz with rfl | rfl <;> rfl
        clear e1 hz
        dsimp only
        go_wp2
        go_roundw
        case rel => exact ⟨1, by first | rfl | go_num, by omega, bAlloc B2.out _⟩
        case measure => first | (simp [intOf]; done) | (simp [intOf]; omega) | decide
      · rw [e1, mvE_def]
        have hq1 : (q : Int) ≤ (n : Int) := by have := hlen.out; omega
        have hq0 : (0 : Int) ≤ (q : Int) := by omega
        have hw1 : (a : Int) < (q : Int) := by omega
        clear e1 hq hw
        dsimp only
        go_wp2
        go_roundw
        case rel => exact ⟨1, by first | rfl | go_num, by omega, bAlloc B2.out _⟩
        case measure => first | (simp [intOf]; done) | (simp [intOf]; omega) | decide
    · go_wp2_with fail
      refine (move_any ao n c i cnt l _ _ TR).mono ?_
      rintro e w2 ⟨rfl, hb2⟩
      have B2 := Hid.mk' (bT HB.out hb2)
      clear hb2
      rcases way_1 l i cnt with ⟨z, hz, e1⟩ | ⟨a, q, rfl, hq, e1, hw⟩
      · rw [e1, mvE_def]
        have hz' : (z != 0) = true := by rcases hz with rfl | rfl <;> rfl
        clear e1 hz
        dsimp only
        go_wp2
        go_roundw
        case rel => exact ⟨2, by first | rfl | go_num, by omega, bAlloc B2.out _⟩
        case measure => first | (simp [intOf]; done) | (simp [intOf]; omega) | decide
      · rw [e1, mvE_def]
        have hq1 : (q : Int) ≤ (n : Int) := by have := hlen.out; omega
        have hq0 : (0 : Int) ≤ (q : Int) := by omega
        have hw1 : (a : Int) < (q : Int) := by omega
        clear e1 hq hw
        dsimp only
        go_wp2
        go_roundw
        case rel => exact ⟨2, by first | rfl | go_num, by omega, bAlloc B2.out _⟩
        case measure => first | (simp [intOf]; done) | (simp [intOf]; omega) | decide
    · go_wp2_with fail
      refine (move_any ao n c i cnt l _ _ TR).mono ?_
      rintro e w2 ⟨rfl, hb2⟩
      have B2 := Hid.mk' (bT HB.out hb2)
      clear hb2
      rcases way_2 l i cnt with ⟨z, hz, e1⟩ | ⟨a, q, rfl, hq, e1, hw⟩
      · rw [e1, mvE_def]
        have hz' : (z != 0) = true := by rcases hz with rfl | rfl <;> rfl
        clear e1 hz
        dsimp only
        go_wp2
        go_roundw
        case rel => exact ⟨3, by first | rfl | go_num, by omega, bAlloc B2.out _⟩
        case measure => first | (simp [intOf]; done) | (simp [intOf]; omega) | decide
      · rw [e1, mvE_def]
        have hq1 : (q : Int) ≤ (n : Int) := by have := hlen.out; omega
        have hq0 : (0 : Int) ≤ (q : Int) := by omega
        have hw1 : (a : Int) < (q : Int) := by omega
        clear e1 hq hw
        dsimp only
        go_wp2
        go_roundw
        case rel => exact ⟨3, by first | rfl | go_num, by omega, bAlloc B2.out _⟩
        case measure => first | (simp [intOf]; done) | (simp [intOf]; omega) | decide
    · go_wp2_with fail
      refine (move_any ao n c i cnt l _ _ TR).mono ?_
      rintro e w2 ⟨rfl, hb2⟩
      have B2 := Hid.mk' (bT HB.out hb2)
      clear hb2
      rcases way_3 l i cnt with ⟨z, hz, e1⟩ | ⟨a, q, rfl, hq, e1, hw⟩
      · rw [e1, mvE_def]
        have hz' : (z != 0) = true := by rcases hz with rfl | rfl <;> rfl
        clear e1 hz
        dsimp only
        go_wp2
        go_roundw
        case rel => exact ⟨4, by first | rfl | go_num, by omega, bAlloc B2.out _⟩
        case measure => first | (simp [intOf]; done) | (simp [intOf]; omega) | decide
      · rw [e1, mvE_def]
        have hq1 : (q : Int) ≤ (n : Int) := by have := hlen.out; omega
        have hq0 : (0 : Int) ≤ (q : Int) := by omega
        have hw1 : (a : Int) < (q : Int) := by omega
        clear e1 hq hw
        dsimp only
        go_wp2
        go_roundw
        case rel => exact ⟨4, by first | rfl | go_num, by omega, bAlloc B2.out _⟩
        case measure => first | (simp [intOf]; done) | (simp [intOf]; omega) | decide
    · go_wp2_with fail
      refine (move_any ao n c i cnt l _ _ TR).mono ?_
      rintro e w2 ⟨rfl, hb2⟩
      have B2 := Hid.mk' (bT HB.out hb2)
      clear hb2
      rcases way_4 l i cnt with ⟨z, hz, e1⟩ | ⟨a, q, rfl, hq, e1, hw⟩
      · rw [e1, mvE_def]
        have hz' : (z != 0) = true := by rcases hz with rfl | rfl <;> rfl
        clear e1 hz
        dsimp only
        go_wp2
        go_roundw
        case rel => exact ⟨5, by first | rfl | go_num, by omega, bAlloc B2.out _⟩
        case measure => first | (simp [intOf]; done) | (simp [intOf]; omega) | decide
      · rw [e1, mvE_def]
        have hq1 : (q : Int) ≤ (n : Int) := by have := hlen.out; omega
        have hq0 : (0 : Int) ≤ (q : Int) := by omega
        have hw1 : (q : Int) < (a : Int) := by omega
        clear e1 hq hw
        dsimp only
        go_wp2
        go_roundw
        case rel => exact ⟨5, by first | rfl | go_num, by omega, bAlloc B2.out _⟩
        case measure => first | (simp [intOf]; done) | (simp [intOf]; omega) | decide
    · go_wp2_with fail
      refine (move_any ao n c i cnt l _ _ TR).mono ?_
      rintro e w2 ⟨rfl, hb2⟩
      have B2 := Hid.mk' (bT HB.out hb2)
      clear hb2
      rcases way_5 l i cnt with ⟨z, hz, e1⟩ | ⟨a, q, rfl, hq, e1, hw⟩
      · rw [e1, mvE_def]
        have hz' : (z != 0) = true := by rcases hz with rfl | rfl <;> rfl
        clear e1 hz
        dsimp only
        go_wp2
        go_roundw
        case rel => exact ⟨6, by first | rfl | go_num, by omega, bAlloc B2.out _⟩
        case measure => first | (simp [intOf]; done) | (simp [intOf]; omega) | decide
      · rw [e1, mvE_def]
        have hq1 : (q : Int) ≤ (n : Int) := by have := hlen.out; omega
        have hq0 : (0 : Int) ≤ (q : Int) := by omega
        have hw1 : (q : Int) < (a : Int) := by omega
        clear e1 hq hw
        dsimp only
        go_wp2
        go_roundw
        case rel => exact ⟨6, by first | rfl | go_num, by omega, bAlloc B2.out _⟩
        case measure => first | (simp [intOf]; done) | (simp [intOf]; omega) | decide
    · go_wp2_with fail
      refine (move_any ao n c i cnt l _ _ TR).mono ?_
      rintro e w2 ⟨rfl, hb2⟩
      have B2 := Hid.mk' (bT HB.out hb2)
      clear hb2
      rcases way_6 l i cnt with ⟨z, hz, e1⟩ | ⟨a, q, rfl, hq, e1, hw⟩
      · rw [e1, mvE_def]
        have hz' : (z != 0) = true := by rcases hz with rfl | rfl <;> rfl
        clear e1 hz
        dsimp only
        go_wp2
        go_roundw
        case rel => exact ⟨7, by first | rfl | go_num, by omega, bAlloc B2.out _⟩
        case measure => first | (simp [intOf]; done) | (simp [intOf]; omega) | decide
      · rw [e1, mvE_def]
        have hq1 : (q : Int) ≤ (n : Int) := by have := hlen.out; omega
        have hq0 : (0 : Int) ≤ (q : Int) := by omega
        have hw1 : (q : Int) < (a : Int) := by omega
        clear e1 hq hw
        dsimp only
        go_wp2
        go_roundw
        case rel => exact ⟨7, by first | rfl | go_num, by omega, bAlloc B2.out _⟩
        case measure => first | (simp [intOf]; done) | (simp [intOf]; omega) | decide
    · go_wp2_with fail
      refine (move_any ao n c i cnt l _ _ TR).mono ?_
      rintro e w2 ⟨rfl, hb2⟩
      have B2 := Hid.mk' (bT HB.out hb2)
      clear hb2
      rcases way_7 l i cnt with ⟨z, hz, e1⟩ | ⟨a, q, rfl, hq, e1, hw⟩
      · rw [e1, mvE_def]
        have hz' : (z != 0) = true := by rcases hz with rfl | rfl <;> rfl
        clear e1 hz
        dsimp only
        go_wp2
        go_roundw
        case rel => exact ⟨8, by first | rfl | go_num, by omega, bAlloc B2.out _⟩
        case measure => first | (simp [intOf]; done) | (simp [intOf]; omega) | decide
      · rw [e1, mvE_def]
        have hq1 : (q : Int) ≤ (n : Int) := by have := hlen.out; omega
        have hq0 : (0 : Int) ≤ (q : Int) := by omega
        have hw1 : (q : Int) < (a : Int) := by omega
        clear e1 hq hw
        dsimp only
        go_wp2
        go_roundw
        case rel => exact ⟨8, by first | rfl | go_num, by omega, bAlloc B2.out _⟩
        case measure => first | (simp [intOf]; done) | (simp [intOf]; omega) | decide
    · go_wp2
      go_ret
      exact ⟨rfl, bT BA.out HB.out⟩
end Go.Proofs.Ytomekjakjgfjdaa
