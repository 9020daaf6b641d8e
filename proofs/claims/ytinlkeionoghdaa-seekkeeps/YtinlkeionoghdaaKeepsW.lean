/- SeekKeeps walked. -/
import Derived.Test.YtinlkeionoghdaaRoom
namespace Go.Proofs.Ytinlkeionoghdaa
open Go.RowKit

set_option maxRecDepth 4000 in
set_option maxHeartbeats 4000000 in
theorem seekKeeps_walk (ao : Option Addr) (n c : Nat) (i cnt key b : Int) (t : Bool) (l : List UInt8) (w : World) (hbig : n ≤ 140737488351232) (HT : Hid (Tx w ao n c l)) :
    Calls Try.prog 8 #[.agg #[.slice ao n c, .int .i64 i, .int .i64 cnt, .int .u8 key, .int .u8 b, .bool t]] w fun e w' => e = .returned (.bool true) ∧ Below w.heap.size w w' := by
  obtain ⟨i0, hi, hz0, hz1, hz2⟩ := info_parts info5
  have hlen := Hid.mk' HT.out.len
  go_enter Try.func8, Try.ntmps8
  go_wp2_with fail
  refine (awake_any _).mono ?_
  rintro e w1 ⟨rfl, hb1⟩
  have c0 : w1.cell? ⟨w.heap.size, 0, none⟩ = some (.slice ao n c) := keepC hb1 (by simp [go_sem])
  have c1 : w1.cell? ⟨w.heap.size, 1, none⟩ = some (.int .i64 i) := keepC hb1 (by simp [go_sem])
  have c2 : w1.cell? ⟨w.heap.size, 2, none⟩ = some (.int .i64 cnt) := keepC hb1 (by simp [go_sem])
  have c3 : w1.cell? ⟨w.heap.size, 3, none⟩ = some (.int .u8 key) := keepC hb1 (by simp [go_sem])
  have c4 : w1.cell? ⟨w.heap.size, 4, none⟩ = some (.int .u8 b) := keepC hb1 (by simp [go_sem])
  have c5 : w1.cell? ⟨w.heap.size, 5, none⟩ = some (.bool t) := keepC hb1 (by simp [go_sem])
  have B1 := Hid.mk' (bT (bAlloc (Below.refl _ _) _) hb1)
  clear hb1
  have T1 := Hid.mk' (HT.out.keep B1.out)
  have hz := lt_of_cell c0
  go_upto_region 3 with fail
  go_cut [3] from 19 to 184 (fun x3 wx => ∃ g cap, x3 = .slice (some ⟨g, 0, none⟩) (n + 2) cap ∧ n + 2 ≤ cap ∧ Below w1.heap.size w1 wx ∧ wx.ownsRow w1.heap.size 5 1 (.slice (some ⟨g, 0, none⟩) (n + 2) cap) (n + 2) (bv l ++ two b))
  case first =>
    have hS2 : Hid (∀ {W' : World}, Below w1.heap.size w1 W' → W'.cell? ⟨w.heap.size, 0, none⟩ = some (.slice ao n c) ∧ W'.cell? ⟨w.heap.size, 4, none⟩ = some (.int .u8 b)) := by
      unfold Hid; intro W' hb; exact ⟨keepC hb c0, keepC hb c4⟩
    clear c0 c1 c2 c3 c4 c5
    have s0 := hS2.out (Below.refl w1.heap.size w1).drew
    have sA := fun o : Obj => hS2.out (bAlloc (Below.refl w1.heap.size w1) o).drew
    have sB := fun o o' : Obj => hS2.out (bAlloc (bAlloc (Below.refl w1.heap.size w1) o).drew o').drew
    have sE := fun o o' : Obj => hS2.out (bAlloc (bAlloc (Below.refl w1.heap.size w1) o) o').drew
    have sF := fun o o' : Obj => hS2.out (bAlloc (bAlloc (Below.refl w1.heap.size w1) o) o')
    have sG := fun o : Obj => hS2.out (bAlloc (Below.refl w1.heap.size w1) o)
    have XA : Hid (Below w1.heap.size w1 (w1.alloc (.cells #[] 5)).drew) := (bAlloc (Below.refl w1.heap.size w1) _).drew
    have EA : Hid ((w1.alloc (.cells #[] 5)).drew.ownsRow w1.heap.size 5 1 (.slice (some ⟨w1.heap.size, 0, none⟩) 0 0) 0 []) := own_drew (World.ownsRow_made w1 #[] 0 (Nat.le_refl _) (Nat.zero_le _) rfl)
    have XC : Hid (Below w1.heap.size w1 ((w1.alloc (.cells #[] 5)).alloc (.cells #[.int .u8 b, .int .u8 b] 5)).drew) := (bAlloc (bAlloc (Below.refl w1.heap.size w1) _) _).drew
    have EC : Hid (((w1.alloc (.cells #[] 5)).alloc (.cells #[.int .u8 b, .int .u8 b] 5)).drew.ownsRow w1.heap.size 5 1 (.slice (some ⟨w1.heap.size, 0, none⟩) 0 0) 0 []) := own_drew ((World.ownsRow_made w1 #[] 0 (Nat.le_refl _) (Nat.zero_le _) rfl).alloc _)
    have LC : Hid (((w1.alloc (.cells #[] 5)).alloc (.cells #[.int .u8 b, .int .u8 b] 5)).drew.ownsRow w1.heap.size 5 1 (.slice (some ⟨w1.heap.size + 1, 0, none⟩) 2 2) 2 (two b)) := own_drew (by simpa using lit_own (w1.alloc (.cells #[] 5)) w1.heap.size b (by simp))
    have XB : Hid (Below w1.heap.size w1 ((w1.alloc (.cells #[.int .u8 b, .int .u8 b] 5)).alloc (.cells #[] 5)).drew) := (bAlloc (bAlloc (Below.refl w1.heap.size w1) _) _).drew
    have EB : Hid (((w1.alloc (.cells #[.int .u8 b, .int .u8 b] 5)).alloc (.cells #[] 5)).drew.ownsRow w1.heap.size 5 1 (.slice (some ⟨w1.heap.size + 1, 0, none⟩) 0 0) 0 []) := own_drew (by simpa using World.ownsRow_made (w1.alloc (.cells #[.int .u8 b, .int .u8 b] 5)) #[] 0 (base := w1.heap.size) (e := 5) (size := 1) (by simp) (Nat.zero_le _) rfl)
    have LB : Hid (((w1.alloc (.cells #[.int .u8 b, .int .u8 b] 5)).alloc (.cells #[] 5)).drew.ownsRow w1.heap.size 5 1 (.slice (some ⟨w1.heap.size, 0, none⟩) 2 2) 2 (two b)) := own_drew ((lit_own w1 w1.heap.size b (Nat.le_refl _)).alloc _)
    go_region_held3 (fun w' => w'.cell? ⟨w.heap.size, 0, none⟩ = some (.slice ao n c) ∧ w'.cell? ⟨w.heap.size, 4, none⟩ = some (.int .u8 b)) (first | (with_reducible assumption) | (with_reducible exact sA _) | (with_reducible exact sB _ _) | (with_reducible exact sE _ _) | (with_reducible exact sF _ _) | (with_reducible exact sG _))
      (first
        | (refine step_app (by rfl) (.tmp 21) (.tmp 23) 22 (by rfl) w1.heap.size 5 i0 (.int .u8 0) 1 1 Try.underlying22 hi hz0 hz1 hz2 (by rfl) (by decide) (.slice (some ⟨w1.heap.size, 0, none⟩) 0 0) 0 [] (by rfl) EA.out (.slice ao n c) n (bv l) (by rfl) ((T1.out.keep XA.out).srv) (by have := hlen.out; rw [bv_length]; omega) (bv_one _) (by unfold maxLen; omega) (by omega) XA.out.size ?_
           intro v5 W5 hO5 hG5 hF5
           have O5 : Hid (W5.ownsRow w1.heap.size 5 1 v5 n (bv l)) := (by unfold Hid; simpa using hO5)
           have B5 : Hid (Below w1.heap.size w1 W5) := XA.out.grown hG5 XA.out.size (fun k hk => by simp [Value.ownBlock] at hk; omega)
           have s5 := hS2.out B5.out
           have s6 := hS2.out B5.out.drew
           have sC := hS2.out (bAlloc B5.out (.cells #[.int .u8 b, .int .u8 b] 5))
           have sD := hS2.out (bAlloc B5.out (.cells #[.int .u8 b, .int .u8 b] 5)).drew
           clear hO5 hG5 hF5)
        | (refine step_app (by rfl) (.tmp 21) (.tmp 23) 22 (by rfl) w1.heap.size 5 i0 (.int .u8 0) 1 1 Try.underlying22 hi hz0 hz1 hz2 (by rfl) (by decide) (.slice (some ⟨w1.heap.size, 0, none⟩) 0 0) 0 [] (by rfl) EC.out (.slice ao n c) n (bv l) (by rfl) ((T1.out.keep XC.out).srv) (by have := hlen.out; rw [bv_length]; omega) (bv_one _) (by unfold maxLen; omega) (by omega) XC.out.size ?_
           intro v5 W5 hO5 hG5 hF5
           have O5 : Hid (W5.ownsRow w1.heap.size 5 1 v5 n (bv l)) := (by unfold Hid; simpa using hO5)
           have B5 : Hid (Below w1.heap.size w1 W5) := XC.out.grown hG5 XC.out.size (fun k hk => by simp [Value.ownBlock] at hk; omega)
           have s5 := hS2.out B5.out
           have s6 := hS2.out B5.out.drew
           have sC := hS2.out (bAlloc B5.out (.cells #[.int .u8 b, .int .u8 b] 5))
           have sD := hS2.out (bAlloc B5.out (.cells #[.int .u8 b, .int .u8 b] 5)).drew
           have L5 : Hid (W5.ownsRow w1.heap.size 5 1 (.slice (some ⟨w1.heap.size + 1, 0, none⟩) 2 2) 2 (two b)) := World.ownsRow.kept LC.out hG5 (by simp [Value.ownBlock])
           clear hO5 hG5 hF5)
        | (refine step_app (by rfl) (.tmp 21) (.tmp 23) 22 (by rfl) w1.heap.size 5 i0 (.int .u8 0) 1 1 Try.underlying22 hi hz0 hz1 hz2 (by rfl) (by decide) (.slice (some ⟨w1.heap.size + 1, 0, none⟩) 0 0) 0 [] (by rfl) EB.out (.slice ao n c) n (bv l) (by rfl) ((T1.out.keep XB.out).srv) (by have := hlen.out; rw [bv_length]; omega) (bv_one _) (by unfold maxLen; omega) (by omega) XB.out.size ?_
           intro v5 W5 hO5 hG5 hF5
           have O5 : Hid (W5.ownsRow w1.heap.size 5 1 v5 n (bv l)) := (by unfold Hid; simpa using hO5)
           have B5 : Hid (Below w1.heap.size w1 W5) := XB.out.grown hG5 XB.out.size (fun k hk => by simp [Value.ownBlock] at hk; omega)
           have s5 := hS2.out B5.out
           have s6 := hS2.out B5.out.drew
           have sC := hS2.out (bAlloc B5.out (.cells #[.int .u8 b, .int .u8 b] 5))
           have sD := hS2.out (bAlloc B5.out (.cells #[.int .u8 b, .int .u8 b] 5)).drew
           have L5 : Hid (W5.ownsRow w1.heap.size 5 1 (.slice (some ⟨w1.heap.size, 0, none⟩) 2 2) 2 (two b)) := World.ownsRow.kept LB.out hG5 (by simp [Value.ownBlock])
           clear hO5 hG5 hF5)
        | (refine step_app (by rfl) (.tmp 24) (.tmp 31) 22 (by rfl) w1.heap.size 5 i0 (.int .u8 0) 1 1 Try.underlying22 hi hz0 hz1 hz2 (by rfl) (by decide) v5 n (bv l) (by rfl) (by first | exact O5.out.alloc _ | exact own_drew (O5.out.alloc _)) (.slice (some ⟨W5.heap.size, 0, none⟩) 2 2) 2 (two b) (by rfl) (by first | exact own_srv (lit_own W5 w1.heap.size b B5.out.size) | exact own_srv (own_drew (lit_own W5 w1.heap.size b B5.out.size))) rfl (two_one b) (by unfold maxLen; omega) (by omega) (by exact (bAlloc B5.out (.cells #[.int .u8 b, .int .u8 b] 5)).size) ?_
           intro v6 W6 hO6 hG6 hF6
           have O6 : Hid (W6.ownsRow w1.heap.size 5 1 v6 (n + 2) (bv l ++ two b)) := hO6
           have B6 : Hid (Below w1.heap.size w1 W6) := (by first | exact (bAlloc B5.out (.cells #[.int .u8 b, .int .u8 b] 5)).grown hG6 (bAlloc B5.out (.cells #[.int .u8 b, .int .u8 b] 5)).size (fun k hk => (O5.out.lt k hk).1) | exact (bAlloc B5.out (.cells #[.int .u8 b, .int .u8 b] 5)).drew.grown hG6 (bAlloc B5.out (.cells #[.int .u8 b, .int .u8 b] 5)).size (fun k hk => (O5.out.lt k hk).1))
           have s7 := hS2.out B6.out
           clear hO6 hG6 hF6)
        | (refine step_app (by rfl) (.tmp 24) (.tmp 31) 22 (by rfl) w1.heap.size 5 i0 (.int .u8 0) 1 1 Try.underlying22 hi hz0 hz1 hz2 (by rfl) (by decide) v5 n (bv l) (by rfl) (by first | exact O5.out | exact own_drew (O5.out)) (.slice (some ⟨w1.heap.size + 1, 0, none⟩) 2 2) 2 (two b) (by rfl) (by first | exact own_srv (L5.out) | exact own_srv (own_drew (L5.out))) rfl (two_one b) (by unfold maxLen; omega) (by omega) (by exact B5.out.size) ?_
           intro v6 W6 hO6 hG6 hF6
           have O6 : Hid (W6.ownsRow w1.heap.size 5 1 v6 (n + 2) (bv l ++ two b)) := hO6
           have B6 : Hid (Below w1.heap.size w1 W6) := (by first | exact B5.out.grown hG6 B5.out.size (fun k hk => (O5.out.lt k hk).1) | exact B5.out.drew.grown hG6 B5.out.size (fun k hk => (O5.out.lt k hk).1))
           have s7 := hS2.out B6.out
           clear hO6 hG6 hF6)
        | (refine step_app (by rfl) (.tmp 24) (.tmp 31) 22 (by rfl) w1.heap.size 5 i0 (.int .u8 0) 1 1 Try.underlying22 hi hz0 hz1 hz2 (by rfl) (by decide) v5 n (bv l) (by rfl) (by first | exact O5.out | exact own_drew (O5.out)) (.slice (some ⟨w1.heap.size, 0, none⟩) 2 2) 2 (two b) (by rfl) (by first | exact own_srv (L5.out) | exact own_srv (own_drew (L5.out))) rfl (two_one b) (by unfold maxLen; omega) (by omega) (by exact B5.out.size) ?_
           intro v6 W6 hO6 hG6 hF6
           have O6 : Hid (W6.ownsRow w1.heap.size 5 1 v6 (n + 2) (bv l ++ two b)) := hO6
           have B6 : Hid (Below w1.heap.size w1 W6) := (by first | exact B5.out.grown hG6 B5.out.size (fun k hk => (O5.out.lt k hk).1) | exact B5.out.drew.grown hG6 B5.out.size (fun k hk => (O5.out.lt k hk).1))
           have s7 := hS2.out B6.out
           clear hO6 hG6 hF6)
        | fail)
    all_goals
      go_wp2
      go_meet
      case rel =>
        obtain ⟨g, cap, rfl, h1, _⟩ := own_some O6.out (by omega)
        exact ⟨g, cap, rfl, h1, B6.out, O6.out⟩
  case rest =>
    obtain ⟨g, cap, rfl, hcap, hb2, hO2⟩ := hcut
    replace B1 := Hid.mk' (bT B1.out hb2)
    replace c0 := keepC hb2 c0
    replace c1 := keepC hb2 c1
    replace c2 := keepC hb2 c2
    replace c3 := keepC hb2 c3
    replace c4 := keepC hb2 c4
    replace c5 := keepC hb2 c5
    have HO := Hid.mk' hO2
    have hgw := (hO2.lt g rfl).1
    have hgc := (hO2.lt g rfl).2
    clear hb2 hO2 T1
    have hx0 : (0 : Int) ≤ (n : Int) := by omega
    have hx1 : (n : Int) ≤ (cap : Int) := by omega
    have hx2 : ¬ cap = 0 := by omega
    obtain ⟨M, hM⟩ : ∃ M, M = mv l i cnt key b := ⟨_, rfl⟩
    obtain ⟨A, hA⟩ : ∃ A, A = ag l i cnt key b t := ⟨_, rfl⟩
    have HM := Hid.mk' hM.symm
    have HA := Hid.mk' hA.symm
    clear hM hA
    obtain ⟨x0, x1, x2, x3⟩ := M
    obtain ⟨y0, y1, y2, y3⟩ := A
    go_wp2_with fail
    refine (move_any (some ⟨g, 0, none⟩) n cap i cnt key b l _ (Hid.mk' (room_tx hlen.out (by omega) HO.out))).mono ?_
    rintro e w3 ⟨rfl, hb⟩
    have hgd : g < w3.heap.size := by have := hb.size; omega
    rw [HM.out, mvE_def]
    dsimp only
    replace c0 := keepC hb c0
    replace c1 := keepC hb c1
    replace c2 := keepC hb c2
    replace c3 := keepC hb c3
    replace c4 := keepC hb c4
    replace c5 := keepC hb c5
    replace HO := Hid.mk' (own_keep HO.out hb)
    replace B1 := Hid.mk' (bT B1.out hb)
    clear hb
    have bb : Below w3.heap.size w3 (w3.alloc (.cells #[.int .i64 x0, .int .i64 x1, .int .i64 x2] 29)) := bAlloc (Below.refl _ _) _
    replace c0 := keepC bb c0
    replace c1 := keepC bb c1
    replace c2 := keepC bb c2
    replace c3 := keepC bb c3
    replace c4 := keepC bb c4
    replace c5 := keepC bb c5
    replace HO := Hid.mk' (own_keep HO.out bb)
    have d0 : (w3.alloc (.cells #[.int .i64 x0, .int .i64 x1, .int .i64 x2] 29)).cell? ⟨w3.heap.size, 0, none⟩ = some (.int .i64 x0) := by simp [go_sem]
    have d1 : (w3.alloc (.cells #[.int .i64 x0, .int .i64 x1, .int .i64 x2] 29)).cell? ⟨w3.heap.size, 1, none⟩ = some (.int .i64 x1) := by simp [go_sem]
    have d2 : (w3.alloc (.cells #[.int .i64 x0, .int .i64 x1, .int .i64 x2] 29)).cell? ⟨w3.heap.size, 2, none⟩ = some (.int .i64 x2) := by simp [go_sem]
    have lt_d := lt_of_cell d0
    replace B1 := Hid.mk' (bT B1.out bb)
    clear bb
    go_upto_region 6 with fail
    generalize w3.alloc (.cells #[.int .i64 x0, .int .i64 x1, .int .i64 x2] 29) = W3 at *
    go_wp2_with fail
    refine (again_any (some ⟨g, 0, none⟩) n cap i cnt key b t l _ (Hid.mk' (room_tx hlen.out (by omega) HO.out))).mono ?_
    rintro e w4 ⟨rfl, hb⟩
    have hgf : g < w4.heap.size := by have := hb.size; omega
    rw [HA.out, mvE_def]
    dsimp only
    replace c0 := keepC hb c0
    replace c1 := keepC hb c1
    replace c2 := keepC hb c2
    replace c3 := keepC hb c3
    replace c4 := keepC hb c4
    replace c5 := keepC hb c5
    replace d0 := keepC hb d0
    replace d1 := keepC hb d1
    replace d2 := keepC hb d2
    replace HO := Hid.mk' (own_keep HO.out hb)
    replace B1 := Hid.mk' (bT B1.out hb)
    clear hb
    have bb : Below w4.heap.size w4 (w4.alloc (.cells #[.int .i64 y0, .int .i64 y1, .int .i64 y2] 29)) := bAlloc (Below.refl _ _) _
    replace c0 := keepC bb c0
    replace c1 := keepC bb c1
    replace c2 := keepC bb c2
    replace c3 := keepC bb c3
    replace c4 := keepC bb c4
    replace c5 := keepC bb c5
    replace d0 := keepC bb d0
    replace d1 := keepC bb d1
    replace d2 := keepC bb d2
    replace HO := Hid.mk' (own_keep HO.out bb)
    have f0 : (w4.alloc (.cells #[.int .i64 y0, .int .i64 y1, .int .i64 y2] 29)).cell? ⟨w4.heap.size, 0, none⟩ = some (.int .i64 y0) := by simp [go_sem]
    have f1 : (w4.alloc (.cells #[.int .i64 y0, .int .i64 y1, .int .i64 y2] 29)).cell? ⟨w4.heap.size, 1, none⟩ = some (.int .i64 y1) := by simp [go_sem]
    have f2 : (w4.alloc (.cells #[.int .i64 y0, .int .i64 y1, .int .i64 y2] 29)).cell? ⟨w4.heap.size, 2, none⟩ = some (.int .i64 y2) := by simp [go_sem]
    have lt_f := lt_of_cell f0
    replace B1 := Hid.mk' (bT B1.out bb)
    clear bb
    go_upto_region 7 with fail
    generalize w4.alloc (.cells #[.int .i64 y0, .int .i64 y1, .int .i64 y2] 29) = W4 at *
    obtain ⟨hn0, hn1⟩ := room_end hlen.out HO.out
    have k1 := conv_drew (room_tx hlen.out (by omega) HO.out)
    have k2 := conv_drew (HT.out.keep B1.out)
    have hi1 : (n : Int) < (n : Int) + 2 := by omega
    have hi2 : (n : Int) + 1 < (n : Int) + 2 := by omega
    have hi3 : (n : Int) + 1 ≤ 140737488355328 := by omega
    have hw1 : IntKind.i64.wrap ((n : Int) + 1) = (n : Int) + 1 := by rw [IntKind.wrap_i64]; omega
    have hi4 : ((n : Int) + 1).toNat = n + 1 := by omega
    go_quiet (fail)
    have bb : Below W4.heap.size W4 (W4.drewN nq) := ⟨rfl, rfl, rfl, Nat.le_refl _, fun _ _ => rfl⟩
    replace c0 := keepC bb c0
    replace c1 := keepC bb c1
    replace c2 := keepC bb c2
    replace c3 := keepC bb c3
    replace c4 := keepC bb c4
    replace c5 := keepC bb c5
    replace d0 := keepC bb d0
    replace d1 := keepC bb d1
    replace d2 := keepC bb d2
    replace f0 := keepC bb f0
    replace f1 := keepC bb f1
    replace f2 := keepC bb f2
    replace HO := Hid.mk' (own_keep HO.out bb)
    replace B1 := Hid.mk' (bT B1.out bb)
    replace lt_d := lt_of_cell d0
    replace lt_f := lt_of_cell f0
    clear bb k1 k2 hn0 hn1 hi1 hi2 hi3 hw1 hi4
    generalize W4.drewN nq = W5 at *
    go_wp2
    go_loopg [9] n (fun gk x9 wx => ∃ j : Nat, x9 = .int .i64 j ∧ j + gk = n ∧ Hid (wx.ownsRow w1.heap.size 5 1 (.slice (some ⟨g, 0, none⟩) (n + 2) cap) (n + 2) (bv (xo l j) ++ two b)) ∧ Hid (Oth g W5 wx) ∧ Hid (Below w.heap.size w wx))
    case atStart => exact ⟨0, rfl, by omega, by rw [xo_zero]; exact HO.out, Oth.refl _ _, B1.out⟩
    case round =>
      obtain ⟨j, rfl, hj, HJ, HX, HBx⟩ := hrel
      have hj0 : (0 : Int) ≤ (j : Int) := by omega
      have hjb : (j : Int) ≤ 140737488351232 := by omega
      cases gk with
      | zero =>
        have hjn : ¬ ((j : Int) < (n : Int)) := by omega
        have hne0 : w.heap.size ≠ g := by omega
        have hne1 : w3.heap.size ≠ g := by omega
        have hne2 : w4.heap.size ≠ g := by omega
        replace c0 := (HX.out.2 _ hne0).trans c0
        replace c1 := (HX.out.2 _ hne0).trans c1
        replace c2 := (HX.out.2 _ hne0).trans c2
        replace c3 := (HX.out.2 _ hne0).trans c3
        replace c4 := (HX.out.2 _ hne0).trans c4
        replace c5 := (HX.out.2 _ hne0).trans c5
        replace d0 := (HX.out.2 _ hne1).trans d0
        replace d1 := (HX.out.2 _ hne1).trans d1
        replace d2 := (HX.out.2 _ hne1).trans d2
        replace f0 := (HX.out.2 _ hne2).trans f0
        replace f1 := (HX.out.2 _ hne2).trans f1
        replace f2 := (HX.out.2 _ hne2).trans f2
        have hl2 : (xo l j).length = n := by rw [xo_len]; exact hlen.out
        have HL2 := Hid.mk' hl2
        clear hne0 hne1 hne2 HX HO B1 hl2
        generalize xo l j = l2 at *
        obtain ⟨M2, hM2⟩ : ∃ M, M = mv l2 i cnt key b := ⟨_, rfl⟩
        have HM2 := Hid.mk' hM2.symm
        clear hM2
        obtain ⟨z0, z1, z2, z3⟩ := M2
        have TL := Hid.mk' (room_tx HL2.out (by omega) HJ.out)
        go_wp2_with (at_builtin; refine append_srv rfl (.tmp 105) (.tmp 106) 22 rfl wr.heap.size 5 i0 (.int .u8 0) 1 1 Try.underlying22 hi hz0 hz1 hz2 rfl (by decide) (.slice (some ⟨wr.heap.size, 0, none⟩) 0 0) 0 [] rfl (World.ownsRow_made wr #[] 0 (Nat.le_refl _) (Nat.zero_le _) rfl) (.slice (some ⟨g, 0, none⟩) n cap) n (bv l2) rfl ?qc2 ?qc1 ?qc3 ?qc4 ?qc5 (by simp) ?_)
        case qc1 => rw [bv_length, HL2.out]
        case qc2 => exact (TL.out.keep (bAlloc (Below.refl _ _) _)).srv
        case qc3 => exact bv_one l2
        case qc4 => unfold maxLen; omega
        case qc5 => omega
        intro v7 W7 hown hgrow _
        have O7 : Hid (W7.ownsRow wr.heap.size 5 1 v7 n (bv l2)) := by unfold Hid; simpa using hown
        have L7 : Below wr.heap.size wr W7 := ((Below.refl _ wr).alloc (Nat.le_refl _) _).grown hgrow (by simp) (by intro k hk; simp [Value.ownBlock] at hk; omega)
        clear hown hgrow
        replace c0 := keepC L7 c0
        replace c1 := keepC L7 c1
        replace c2 := keepC L7 c2
        replace c3 := keepC L7 c3
        replace c4 := keepC L7 c4
        replace c5 := keepC L7 c5
        replace d0 := keepC L7 d0
        replace d1 := keepC L7 d1
        replace d2 := keepC L7 d2
        replace f0 := keepC L7 f0
        replace f1 := keepC L7 f1
        replace f2 := keepC L7 f2
        replace TL := Hid.mk' (TL.out.keep L7)
        replace HBx := Hid.mk' (bT HBx.out L7)
        obtain ⟨ao7, c7, rfl, hT7⟩ := own_tx HL2.out (by omega) O7.out
        have T7 := Hid.mk' hT7
        clear hT7 O7 L7 HJ
        go_wp2_with fail
        refine (move_any (some ⟨g, 0, none⟩) n cap i cnt key b l2 _ TL).mono ?_
        rintro e w8 ⟨rfl, hb⟩
        rw [HM2.out, mvE_def]
        dsimp only
        replace c0 := keepC hb c0
        replace c1 := keepC hb c1
        replace c2 := keepC hb c2
        replace c3 := keepC hb c3
        replace c4 := keepC hb c4
        replace c5 := keepC hb c5
        replace d0 := keepC hb d0
        replace d1 := keepC hb d1
        replace d2 := keepC hb d2
        replace f0 := keepC hb f0
        replace f1 := keepC hb f1
        replace f2 := keepC hb f2
        replace TL := Hid.mk' (TL.out.keep hb)
        replace T7 := Hid.mk' (T7.out.keep hb)
        replace HBx := Hid.mk' (bT HBx.out hb)
        clear hb
        have bb : Below w8.heap.size w8 (w8.alloc (.cells #[.int .i64 z0, .int .i64 z1, .int .i64 z2] 29)) := bAlloc (Below.refl _ _) _
        replace c0 := keepC bb c0
        replace c1 := keepC bb c1
        replace c2 := keepC bb c2
        replace c3 := keepC bb c3
        replace c4 := keepC bb c4
        replace c5 := keepC bb c5
        replace d0 := keepC bb d0
        replace d1 := keepC bb d1
        replace d2 := keepC bb d2
        replace f0 := keepC bb f0
        replace f1 := keepC bb f1
        replace f2 := keepC bb f2
        replace TL := Hid.mk' (TL.out.keep bb)
        replace T7 := Hid.mk' (T7.out.keep bb)
        replace HBx := Hid.mk' (bT HBx.out bb)
        have p0 : (w8.alloc (.cells #[.int .i64 z0, .int .i64 z1, .int .i64 z2] 29)).cell? ⟨w8.heap.size, 0, none⟩ = some (.int .i64 z0) := by simp [go_sem]
        have p1 : (w8.alloc (.cells #[.int .i64 z0, .int .i64 z1, .int .i64 z2] 29)).cell? ⟨w8.heap.size, 1, none⟩ = some (.int .i64 z1) := by simp [go_sem]
        have p2 : (w8.alloc (.cells #[.int .i64 z0, .int .i64 z1, .int .i64 z2] 29)).cell? ⟨w8.heap.size, 2, none⟩ = some (.int .i64 z2) := by simp [go_sem]
        have lt_p := lt_of_cell p0
        clear bb
        go_upto_region 15 with fail
        generalize w8.alloc (.cells #[.int .i64 z0, .int .i64 z1, .int .i64 z2] 29) = W8 at *
        go_wp2_with fail
        refine (move_any ao7 n c7 i cnt key b l2 _ T7).mono ?_
        rintro e w9 ⟨rfl, hb⟩
        rw [HM2.out, mvE_def]
        dsimp only
        replace c0 := keepC hb c0
        replace c1 := keepC hb c1
        replace c2 := keepC hb c2
        replace c3 := keepC hb c3
        replace c4 := keepC hb c4
        replace c5 := keepC hb c5
        replace d0 := keepC hb d0
        replace d1 := keepC hb d1
        replace d2 := keepC hb d2
        replace f0 := keepC hb f0
        replace f1 := keepC hb f1
        replace f2 := keepC hb f2
        replace p0 := keepC hb p0
        replace p1 := keepC hb p1
        replace p2 := keepC hb p2
        replace TL := Hid.mk' (TL.out.keep hb)
        replace T7 := Hid.mk' (T7.out.keep hb)
        replace HBx := Hid.mk' (bT HBx.out hb)
        clear hb
        have bb : Below w9.heap.size w9 (w9.alloc (.cells #[.int .i64 z0, .int .i64 z1, .int .i64 z2] 29)) := bAlloc (Below.refl _ _) _
        replace c0 := keepC bb c0
        replace c1 := keepC bb c1
        replace c2 := keepC bb c2
        replace c3 := keepC bb c3
        replace c4 := keepC bb c4
        replace c5 := keepC bb c5
        replace d0 := keepC bb d0
        replace d1 := keepC bb d1
        replace d2 := keepC bb d2
        replace f0 := keepC bb f0
        replace f1 := keepC bb f1
        replace f2 := keepC bb f2
        replace p0 := keepC bb p0
        replace p1 := keepC bb p1
        replace p2 := keepC bb p2
        replace TL := Hid.mk' (TL.out.keep bb)
        replace T7 := Hid.mk' (T7.out.keep bb)
        replace HBx := Hid.mk' (bT HBx.out bb)
        have q0 : (w9.alloc (.cells #[.int .i64 z0, .int .i64 z1, .int .i64 z2] 29)).cell? ⟨w9.heap.size, 0, none⟩ = some (.int .i64 z0) := by simp [go_sem]
        have q1 : (w9.alloc (.cells #[.int .i64 z0, .int .i64 z1, .int .i64 z2] 29)).cell? ⟨w9.heap.size, 1, none⟩ = some (.int .i64 z1) := by simp [go_sem]
        have q2 : (w9.alloc (.cells #[.int .i64 z0, .int .i64 z1, .int .i64 z2] 29)).cell? ⟨w9.heap.size, 2, none⟩ = some (.int .i64 z2) := by simp [go_sem]
        have lt_q := lt_of_cell q0
        clear bb
        go_upto_region 16 with fail
        generalize w9.alloc (.cells #[.int .i64 z0, .int .i64 z1, .int .i64 z2] 29) = W9 at *
        go_wp2_with fail
        refine (move_any ao n c i cnt key b l _ (Hid.mk' (HT.out.keep HBx.out))).mono ?_
        rintro e w10 ⟨rfl, hb⟩
        rw [HM.out, mvE_def]
        dsimp only
        replace c0 := keepC hb c0
        replace c1 := keepC hb c1
        replace c2 := keepC hb c2
        replace c3 := keepC hb c3
        replace c4 := keepC hb c4
        replace c5 := keepC hb c5
        replace d0 := keepC hb d0
        replace d1 := keepC hb d1
        replace d2 := keepC hb d2
        replace f0 := keepC hb f0
        replace f1 := keepC hb f1
        replace f2 := keepC hb f2
        replace p0 := keepC hb p0
        replace p1 := keepC hb p1
        replace p2 := keepC hb p2
        replace q0 := keepC hb q0
        replace q1 := keepC hb q1
        replace q2 := keepC hb q2
        replace TL := Hid.mk' (TL.out.keep hb)
        replace T7 := Hid.mk' (T7.out.keep hb)
        replace HBx := Hid.mk' (bT HBx.out hb)
        clear hb
        have bb : Below w10.heap.size w10 (w10.alloc (.cells #[.int .i64 x0, .int .i64 x1, .int .i64 x2] 29)) := bAlloc (Below.refl _ _) _
        replace c0 := keepC bb c0
        replace c1 := keepC bb c1
        replace c2 := keepC bb c2
        replace c3 := keepC bb c3
        replace c4 := keepC bb c4
        replace c5 := keepC bb c5
        replace d0 := keepC bb d0
        replace d1 := keepC bb d1
        replace d2 := keepC bb d2
        replace f0 := keepC bb f0
        replace f1 := keepC bb f1
        replace f2 := keepC bb f2
        replace p0 := keepC bb p0
        replace p1 := keepC bb p1
        replace p2 := keepC bb p2
        replace q0 := keepC bb q0
        replace q1 := keepC bb q1
        replace q2 := keepC bb q2
        replace TL := Hid.mk' (TL.out.keep bb)
        replace T7 := Hid.mk' (T7.out.keep bb)
        replace HBx := Hid.mk' (bT HBx.out bb)
        have r0 : (w10.alloc (.cells #[.int .i64 x0, .int .i64 x1, .int .i64 x2] 29)).cell? ⟨w10.heap.size, 0, none⟩ = some (.int .i64 x0) := by simp [go_sem]
        have r1 : (w10.alloc (.cells #[.int .i64 x0, .int .i64 x1, .int .i64 x2] 29)).cell? ⟨w10.heap.size, 1, none⟩ = some (.int .i64 x1) := by simp [go_sem]
        have r2 : (w10.alloc (.cells #[.int .i64 x0, .int .i64 x1, .int .i64 x2] 29)).cell? ⟨w10.heap.size, 2, none⟩ = some (.int .i64 x2) := by simp [go_sem]
        have lt_r := lt_of_cell r0
        clear bb
        go_upto_region 17 with fail
        generalize w10.alloc (.cells #[.int .i64 x0, .int .i64 x1, .int .i64 x2] 29) = W10 at *
        go_wp2_with fail
        refine (again_any ao n c i cnt key b t l _ (Hid.mk' (HT.out.keep HBx.out))).mono ?_
        rintro e w11 ⟨rfl, hb⟩
        rw [HA.out, mvE_def]
        dsimp only
        replace c0 := keepC hb c0
        replace c1 := keepC hb c1
        replace c2 := keepC hb c2
        replace c3 := keepC hb c3
        replace c4 := keepC hb c4
        replace c5 := keepC hb c5
        replace d0 := keepC hb d0
        replace d1 := keepC hb d1
        replace d2 := keepC hb d2
        replace f0 := keepC hb f0
        replace f1 := keepC hb f1
        replace f2 := keepC hb f2
        replace p0 := keepC hb p0
        replace p1 := keepC hb p1
        replace p2 := keepC hb p2
        replace q0 := keepC hb q0
        replace q1 := keepC hb q1
        replace q2 := keepC hb q2
        replace r0 := keepC hb r0
        replace r1 := keepC hb r1
        replace r2 := keepC hb r2
        replace TL := Hid.mk' (TL.out.keep hb)
        replace T7 := Hid.mk' (T7.out.keep hb)
        replace HBx := Hid.mk' (bT HBx.out hb)
        clear hb
        have bb : Below w11.heap.size w11 (w11.alloc (.cells #[.int .i64 y0, .int .i64 y1, .int .i64 y2] 29)) := bAlloc (Below.refl _ _) _
        replace c0 := keepC bb c0
        replace c1 := keepC bb c1
        replace c2 := keepC bb c2
        replace c3 := keepC bb c3
        replace c4 := keepC bb c4
        replace c5 := keepC bb c5
        replace d0 := keepC bb d0
        replace d1 := keepC bb d1
        replace d2 := keepC bb d2
        replace f0 := keepC bb f0
        replace f1 := keepC bb f1
        replace f2 := keepC bb f2
        replace p0 := keepC bb p0
        replace p1 := keepC bb p1
        replace p2 := keepC bb p2
        replace q0 := keepC bb q0
        replace q1 := keepC bb q1
        replace q2 := keepC bb q2
        replace r0 := keepC bb r0
        replace r1 := keepC bb r1
        replace r2 := keepC bb r2
        replace TL := Hid.mk' (TL.out.keep bb)
        replace T7 := Hid.mk' (T7.out.keep bb)
        replace HBx := Hid.mk' (bT HBx.out bb)
        have s0 : (w11.alloc (.cells #[.int .i64 y0, .int .i64 y1, .int .i64 y2] 29)).cell? ⟨w11.heap.size, 0, none⟩ = some (.int .i64 y0) := by simp [go_sem]
        have s1 : (w11.alloc (.cells #[.int .i64 y0, .int .i64 y1, .int .i64 y2] 29)).cell? ⟨w11.heap.size, 1, none⟩ = some (.int .i64 y1) := by simp [go_sem]
        have s2 : (w11.alloc (.cells #[.int .i64 y0, .int .i64 y1, .int .i64 y2] 29)).cell? ⟨w11.heap.size, 2, none⟩ = some (.int .i64 y2) := by simp [go_sem]
        have lt_s := lt_of_cell s0
        clear bb
        go_upto_region 18 with fail
        generalize w11.alloc (.cells #[.int .i64 y0, .int .i64 y1, .int .i64 y2] 29) = W11 at *
        replace lt_d := lt_of_cell d0
        replace lt_f := lt_of_cell f0
        replace lt_p := lt_of_cell p0
        replace lt_q := lt_of_cell q0
        replace lt_r := lt_of_cell r0
        clear c0 c1 c2 c3 c4 c5
        go_wp2
        go_ret
        exact ⟨rfl, HBx.out⟩
      | succ m =>
        have hjn : (j : Int) < (n : Int) := by omega
        have hjl : j < l.length := by have := hlen.out; omega
        have hcj : wr.cell? ⟨g, j, none⟩ = some (.int .u8 ((at8 l j).toNat : Int)) := by
          have h1 := (room_tx (by rw [xo_len]; exact hlen.out) (by omega) HJ.out).cells _ rfl j (by omega)
          rw [add_none, Nat.zero_add, xo_at hjl] at h1
          exact h1
        have hfj := HJ.out.frozenAt j
        go_wp2
        go_roundg m
        case measure => omega
        case rel =>
          refine ⟨j + 1, by go_num, by omega, ?_, HX.out.set j _, HBx.out.setCell (by show w.heap.size ≤ g; omega) _⟩
          unfold Hid
          rw [xr]
          have h1 := (HJ.out.stored j (.int .u8 ((at8 l j ^^^ 1).toNat : Int))).1
          rw [List.set_append_left _ _ (by rw [bv_length, xo_len]; exact hjl), bv_set, xo_set hjl] at h1
          exact h1
end Go.Proofs.Ytinlkeionoghdaa
