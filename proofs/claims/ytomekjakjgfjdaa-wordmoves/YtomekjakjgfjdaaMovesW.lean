/- The walk of quoinlaw08.WordMoves: it answers true for every text and every question. -/
import Derived.Test.YtomekjakjgfjdaaRm
import Derived.Test.YtomekjakjgfjdaaLent
import Derived.Deep.CutRange
import Derived.Test.YtomekjakjgfjdaaSteps
namespace Go.Proofs.Ytomekjakjgfjdaa
open Go.RowKit

theorem cat_xy (l : List UInt8) : (l ++ [120, 121] == (({ data := l.toArray } : ByteArray) ++ { data := #[120, 121] }).toList) = true := by
  rw [Lib.toList_data, ByteArray.data_append]
  simp
set_option maxRecDepth 100000 in
set_option maxHeartbeats 4000000 in
theorem wordMoves_walk (ao : Option Addr) (n c : Nat) (i cnt : Int) (s : ByteArray) (l : List UInt8) (w : World) (hbig : n ≤ 140737488351232) (HT : Hid (Tx w ao n c l)) :
    Calls Try.prog 3 #[.agg #[.slice ao n c, .int .i64 i, .int .i64 cnt, .string s]] w fun e w' => e = .returned (.bool true) ∧ Below w.heap.size w w' := by
  obtain ⟨i0, hi, hz0, hz1, hz2⟩ := info_parts info5
  have hlen := Hid.mk' HT.out.len
  go_enter Try.func3, Try.ntmps3
  go_wp2_with fail
  refine (alive_any _).mono ?_
  rintro e w1 ⟨rfl, hb1⟩
  have c0 : w1.cell? ⟨w.heap.size, 0, none⟩ = some (.slice ao n c) := keepC hb1 (by simp [go_sem])
  have c1 : w1.cell? ⟨w.heap.size, 1, none⟩ = some (.int .i64 i) := keepC hb1 (by simp [go_sem])
  have c2 : w1.cell? ⟨w.heap.size, 2, none⟩ = some (.int .i64 cnt) := keepC hb1 (by simp [go_sem])
  have c3 : w1.cell? ⟨w.heap.size, 3, none⟩ = some (.string s) := keepC hb1 (by simp [go_sem])
  have B1 := Hid.mk' (bT (bAlloc (Below.refl _ _) _) hb1)
  clear hb1
  go_wp2
  go_quiet (fail)
  have B2 := Hid.mk' (bT B1.out (below_drewN w1 nq))
  generalize w1.drewN nq = w2 at *
  clear c0 c1 c2 c3 B1
  have T2 := Hid.mk' (HT.out.keep B2.out)
  go_wp2_with fail
  refine (rmove_any ao n c i cnt l s _ T2).mono ?_
  rintro e w3 ⟨rfl, hb3⟩
  have B3 := Hid.mk' (bT B2.out hb3)
  clear hb3 B2 T2
  obtain ⟨M, hM⟩ : ∃ M, M = mv l i cnt s := ⟨_, rfl⟩
  rw [← hM, mvE_def]
  have HM := Hid.mk' hM
  clear hM
  obtain ⟨x0, x1, x2, x3⟩ := M
  dsimp only
  have B3' := Hid.mk' (bAlloc B3.out (.cells #[.int .i64 x0, .int .i64 x1, .int .i64 x2] 27))
  have d0 : (w3.alloc (.cells #[.int .i64 x0, .int .i64 x1, .int .i64 x2] 27)).cell? ⟨w3.heap.size, 0, none⟩ = some (.int .i64 x0) := by simp [go_sem]
  have d1 : (w3.alloc (.cells #[.int .i64 x0, .int .i64 x1, .int .i64 x2] 27)).cell? ⟨w3.heap.size, 1, none⟩ = some (.int .i64 x1) := by simp [go_sem]
  have d2 : (w3.alloc (.cells #[.int .i64 x0, .int .i64 x1, .int .i64 x2] 27)).cell? ⟨w3.heap.size, 2, none⟩ = some (.int .i64 x2) := by simp [go_sem]
  have hsz : w3.heap.size < (w3.alloc (.cells #[.int .i64 x0, .int .i64 x1, .int .i64 x2] 27)).heap.size := by simp
  go_upto_region 5 with fail
  generalize w3.alloc (.cells #[.int .i64 x0, .int .i64 x1, .int .i64 x2] 27) = W3 at *
  have T3 := Hid.mk' (HT.out.keep B3'.out)
  clear B3
  go_wp2_with (at_builtin; refine append_srv rfl (.tmp 30) (.tmp 31) 22 rfl W3.heap.size 5 i0 (.int .u8 0) 1 1 Try.underlying22 hi hz0 hz1 hz2 rfl (by decide) (.slice (some ⟨W3.heap.size, 0, none⟩) 0 0) 0 [] rfl (World.ownsRow_made W3 #[] 0 (Nat.le_refl _) (Nat.zero_le _) rfl) (.slice ao n c) n (bv l) rfl ?qc2 ?qc1 ?qc3 ?qc4 ?qc5 ?qc6 ?_)
  case qc1 => rw [bv_length, hlen.out]; omega
  case qc2 => exact (T3.out.keep (bAlloc (Below.refl _ _) _)).srv
  case qc3 => exact bv_one l
  case qc4 => unfold maxLen; omega
  case qc5 => omega
  case qc6 => simp
  intro v1 w4 hown hgrow _
  have HW1 : Hid (w4.ownsRow W3.heap.size 5 1 v1 n (bv l)) := by unfold Hid; simpa using hown
  have L1 : Hid (Below W3.heap.size W3 w4) := ((Below.refl _ W3).alloc (Nat.le_refl _) _).grown hgrow (by simp) (by intro k hk; simp [Value.ownBlock] at hk; omega)
  clear hown hgrow
  go_wp2_with (at_builtin; refine append_srv rfl (.tmp 32) (.tmp 33) 22 rfl W3.heap.size 5 i0 (.int .u8 0) 1 1 Try.underlying22 hi hz0 hz1 hz2 rfl (by decide) v1 n (bv l) rfl (HW1.out.alloc _) (.slice (some ⟨w4.heap.size, 0, none⟩) 2 2) 2 [.int .u8 120, .int .u8 121] rfl (.inr ⟨⟨w4.heap.size, 0, none⟩, 2, rfl, fun k u hk => lit_cells w4 _ 5 k u hk⟩) rfl ?qd3 ?qd4 ?qd5 ?qd6 ?_)
  case qd3 => intro u hu; simp at hu; rcases hu with rfl | rfl <;> rfl
  case qd4 => unfold maxLen; omega
  case qd5 => omega
  case qd6 => have := L1.out.size; simp; omega
  intro v2 w5 hown hgrow _
  have L2 : Hid (Below W3.heap.size W3 w5) := (bAlloc L1.out _).grown hgrow (by have := L1.out.size; simp; omega) (fun k hk => (HW1.out.lt k hk).1)
  obtain ⟨g, cap, rfl, hc1, hc2⟩ := own_some hown (by omega)
  have HW2 : Hid (w5.ownsRow W3.heap.size 5 1 (.slice (some ⟨g, 0, none⟩) (n + 2) cap) (n + 2) (bv l ++ mk2)) := hown
  have hx0 : (0 : Int) ≤ (n : Int) := by omega
  have hx1 : (n : Int) ≤ (cap : Int) := by omega
  have hx2 : ¬ cap = 0 := by omega
  clear hown hgrow hc2 HW1 L1
  replace d0 := keepC L2.out d0
  replace d1 := keepC L2.out d1
  replace d2 := keepC L2.out d2
  have BW := Hid.mk' (bT B3'.out L2.out)
  have TL := Hid.mk' (lent_tx hlen.out (by omega) HW2.out)
  go_wp2_with fail
  refine (move_any (some ⟨g, 0, none⟩) n cap i cnt l s _ TL).mono ?_
  rintro e w6 ⟨rfl, hb6⟩
  rw [← HM.out, mvE_def]
  dsimp only
  replace d0 := keepC hb6 d0
  replace d1 := keepC hb6 d1
  replace d2 := keepC hb6 d2
  have O6 := Hid.mk' (own_keep HW2.out hb6)
  have B6 := Hid.mk' (bT BW.out hb6)
  clear hb6
  have b6 : Below w6.heap.size w6 (w6.alloc (.cells #[.int .i64 x0, .int .i64 x1, .int .i64 x2] 27)) := bAlloc (Below.refl _ _) _
  have v1 := conv_tx ((lent_all hlen.out (by omega) O6.out).keep b6)
  have v2 := conv_tx ((HT.out.keep B6.out).keep b6)
  have hcc := hlen.out
  have hz6 : w3.heap.size < w6.heap.size := lt_of_cell d0
  have hsn : (n : Int) ≤ 140737488351232 := by omega
  have HXY := Hid.mk' (cat_xy l)
  go_wp2
  go_ret
  exact ⟨by rw [← HXY.out]; rfl, bAlloc B6.out _⟩
end Go.Proofs.Ytomekjakjgfjdaa
