/- The contract of block's leads, for one of the motions. -/
import Derived.Test.YtkapddemgodamaaDoorBlk
namespace Go.Proofs.YtkapddemgodamaaDoor
open Go.RowKit

set_option maxHeartbeats 4000000 in
theorem leads_2 (ao : Option Addr) (n c p N : Nat) (l : List UInt8) (w : World) (hp : p ≤ n) (hN : N ≤ 9999) (HT : Hid (Tx w ao n c l)) :
    Calls Tryd.prog 25 #[mot (-1) 34, .slice ao n c, .int .i64 p, .int .i64 N] w fun e w' => e = mvE p 1 (it (sd (ee l)) N p) ∧ Below w.heap.size w w' := by
  have hbig : (n : Int) ≤ 140737488355328 := by have := HT.out.big; omega
  obtain ⟨A, hA⟩ : ∃ A, A = it (sd (ee l)) N p := ⟨_, rfl⟩
  rw [← hA]
  have HA := Hid.mk' hA.symm
  clear hA
  unfold mot
  have hp0 : (0 : Int) ≤ (p : Int) := by omega
  go_enter Tryd.func25, Tryd.ntmps25
  go_wp2
  have BW : Hid (Below w.heap.size w ((w.alloc (.cells #[.int .i64 (-1), .func (.func 34) #[] #[]] 54)).alloc (.cells #[.int .i64 0, .int .i64 0, .int .i64 0] 30))) := bAlloc (bAlloc (Below.refl _ _) _) _
  have m0 : ((w.alloc (.cells #[.int .i64 (-1), .func (.func 34) #[] #[]] 54)).alloc (.cells #[.int .i64 0, .int .i64 0, .int .i64 0] 30)).cell? ⟨w.heap.size, 0, none⟩ = some (.int .i64 (-1)) := by simp [go_sem]
  have m1 : ((w.alloc (.cells #[.int .i64 (-1), .func (.func 34) #[] #[]] 54)).alloc (.cells #[.int .i64 0, .int .i64 0, .int .i64 0] 30)).cell? ⟨w.heap.size, 1, none⟩ = some (.func (.func 34) #[] #[]) := by simp [go_sem]
  have t0 : Blk ((w.alloc (.cells #[.int .i64 (-1), .func (.func 34) #[] #[]] 54)).alloc (.cells #[.int .i64 0, .int .i64 0, .int .i64 0] 30)) (w.heap.size + 1) 30 #[.int .i64 0, .int .i64 0, .int .i64 0] := by have := Blk.new (w.alloc (.cells #[.int .i64 (-1), .func (.func 34) #[] #[]] 54)) 30 #[.int .i64 0, .int .i64 0, .int .i64 0]; simpa using this
  have M0 := Hid.mk' m0
  have M1 := Hid.mk' m1
  have TC := Hid.mk' t0
  clear m0 m1 t0
  generalize (w.alloc (.cells #[.int .i64 (-1), .func (.func 34) #[] #[]] 54)).alloc (.cells #[.int .i64 0, .int .i64 0, .int .i64 0] 30) = W1 at *
  have TX : Hid (∀ W, Below w.heap.size w W → Hid (Tx W ao n c l)) := fun W h => HT.out.keep h
  have wN : ∀ x : Int, 0 ≤ x → x ≤ 140737488355328 → IntKind.i64.wrap (x + (-1)) = x + (-1) := fun x h1 h2 => by rw [IntKind.wrap_i64]; omega
  have WN := Hid.mk' wN
  clear wN HT
  go_loopg [11, 19] N (fun m x11 x19 wx => ∃ d j : Nat, j + m = N ∧ d ≤ n ∧ x11 = .int .i64 d ∧ x19 = .int .i64 j ∧ Hid (it (sd (ee l)) m d = A) ∧ Hid (Below w.heap.size w wx) ∧ Hid (wx.cell? ⟨w.heap.size, 0, none⟩ = some (.int .i64 (-1))) ∧ Hid (wx.cell? ⟨w.heap.size, 1, none⟩ = some (.func (.func 34) #[] #[])) ∧ Hid (Blk wx (w.heap.size + 1) 30 #[.int .i64 0, .int .i64 0, .int .i64 0]))
  case atStart => exact ⟨p, 0, by omega, hp, rfl, rfl, HA.out, BW.out, M0.out, M1.out, TC.out⟩
  case round =>
    clear M0 M1 TC BW HA
    obtain ⟨d, j, hj, hd, rfl, rfl, HI, HB, M0, M1, TC⟩ := hrel
    have hd0 : (0 : Int) ≤ (d : Int) := by omega
    have hd1 : (d : Int) ≤ 140737488355328 := by omega
    cases gk with
    | zero =>
      have hjz : ¬ ((j : Int) < (N : Int)) := by omega
      have e : A = some d := HI.out.symm
      subst e
      have f0 := TC.out.frozen 0
      have f1 := TC.out.frozen 1
      have f2 := TC.out.frozen 2
      have P3 := Hid.mk' (TC.out.put3 (.int .i64 p) (.int .i64 d) (.int .i64 1))
      have d0 : wr.cell? ⟨w.heap.size + 1, 0, none⟩ = some (.int .i64 0) := TC.out.cell rfl
      have d1 : wr.cell? ⟨w.heap.size + 1, 1, none⟩ = some (.int .i64 0) := TC.out.cell rfl
      have d2 : wr.cell? ⟨w.heap.size + 1, 2, none⟩ = some (.int .i64 0) := TC.out.cell rfl
      have hB3 := Hid.mk' (put3_below HB.out (Nat.le_succ _) (.int .i64 p) (.int .i64 d) (.int .i64 1) (B := w.heap.size + 1))
      unfold put3 at hB3
      go_wp2
      try rw [Exit.noGoto_ret]
      exact bodyPost_ret (v := .tuple #[.agg #[.int .i64 p, .int .i64 d, .int .i64 1], .int .i64 0]) (by simp [results, Tryd.results25, go_sem, d0, d1, d2]) rfl ⟨rfl, hB3.out⟩
    | succ m =>
      have hjz : (j : Int) < (N : Int) := by omega
      have hj1 : (j : Int) ≤ 9999 := by omega
      have hj0 : (0 : Int) ≤ (j : Int) := by omega
      by_cases hdl : d = 0
      · have hdz : ((d : Int) == (0)) = true := by simp; omega
        have e : A = none := by have := HI.out; rw [← this]; simp [it, sd, hdl]
        subst e
        have f0 := TC.out.frozen 0
        have f1 := TC.out.frozen 1
        have f2 := TC.out.frozen 2
        have P3 := Hid.mk' (TC.out.put3 (.int .i64 0) (.int .i64 0) (.int .i64 0))
        have d0 : wr.cell? ⟨w.heap.size + 1, 0, none⟩ = some (.int .i64 0) := TC.out.cell rfl
        have d1 : wr.cell? ⟨w.heap.size + 1, 1, none⟩ = some (.int .i64 0) := TC.out.cell rfl
        have d2 : wr.cell? ⟨w.heap.size + 1, 2, none⟩ = some (.int .i64 0) := TC.out.cell rfl
        have hB3 := Hid.mk' (put3_below HB.out (Nat.le_succ _) (.int .i64 0) (.int .i64 0) (.int .i64 0) (B := w.heap.size + 1))
        unfold put3 at hB3
        clear hdl
        go_wp2
        try rw [Exit.noGoto_ret]
        exact bodyPost_ret (v := .tuple #[.agg #[.int .i64 0, .int .i64 0, .int .i64 0], .int .i64 70]) (by simp [results, Tryd.results25, go_sem, d0, d1, d2]) rfl ⟨rfl, hB3.out⟩
      · have hdz : ((d : Int) == (0)) = false := by simp; omega
        have HK : Hid (it (sd (ee l)) m (nd (ee l) (d - 1)) = A) := by
          unfold Hid
          have := HI.out
          simp only [it, sd, hdl, if_false, Option.bind_some] at this
          exact this
        have cm0 := M0.out
        have hw := WN.out (d : Int) hd0 hd1
        go_wp2
        go_loopg [11] (d - 1) (fun g x11 wy => ∃ q : Nat, q ≤ g ∧ g ≤ q ∧ q + 1 ≤ n ∧ x11 = .int .i64 q ∧ q < d ∧ Hid (it (sd (ee l)) m (nd (ee l) q) = A) ∧ Hid (Below w.heap.size w wy) ∧ Hid (wy.cell? ⟨w.heap.size, 0, none⟩ = some (.int .i64 (-1))) ∧ Hid (wy.cell? ⟨w.heap.size, 1, none⟩ = some (.func (.func 34) #[] #[])) ∧ Hid (Blk wy (w.heap.size + 1) 30 #[.int .i64 0, .int .i64 0, .int .i64 0]))
        case atStart => exact ⟨d - 1, by omega, by omega, by omega, by go_num, by omega, HK.out, HB.out, M0.out, M1.out, TC.out⟩
        case round =>
          clear HB M0 M1 TC HK HI cm0 hdz
          obtain ⟨q, hq1, hq2, hqn, rfl, hdq, HI, HB, M0, M1, TC⟩ := hrel
          have hq0 : (0 : Int) ≤ (q : Int) := by omega
          have hqb : (q : Int) ≤ 140737488355328 := by omega
          have cm0 := M0.out
          have cm1 := M1.out
          have hw := WN.out (q : Int) hq0 hqb
          cases gk with
          | zero =>
            have hqz : ((q : Int) != (0)) = false := by simp; omega
            have HK : Hid (it (sd (ee l)) m q = A) := by have := HI.out; obtain rfl : q = 0 := (by omega); exact this
            go_wp2
            go_roundg m
            case measure => omega
            case rel => exact ⟨q, j + 1, by omega, by omega, rfl, by go_num, HK.out, HB.out, M0.out, M1.out, TC.out⟩
          | succ g =>
            have hqz : ((q : Int) != (0)) = true := by simp; omega
            have C1 := Hid.mk' (endsEmptyLines_any (k := q) (by omega) (TX.out _ HB.out))
            cases hs : ee l q with
            | true =>
              have HK : Hid (it (sd (ee l)) m q = A) := by
                unfold Hid
                have := HI.out
                obtain ⟨q0, rfl⟩ : ∃ q0, q = q0 + 1 := ⟨q - 1, by omega⟩; unfold nd at this; rw [if_pos hs] at this; exact this
              rw [hs] at C1
              clear hs
              go_wp2_with fail
              refine C1.out.mono ?_
              rintro e w2 ⟨rfl, hq⟩; have hq2 := hq.symm; subst hq2; clear hq; have hb2 := Below.refl wr.heap.size wr
              have HB2 := Hid.mk' (bT HB.out hb2)
              have N0 := Hid.mk' (keepC hb2 M0.out)
              have N1 := Hid.mk' (keepC hb2 M1.out)
              have N2 := Hid.mk' (TC.out.keep hb2)
              clear hb2
              go_wp2
              go_roundg m
              case measure => omega
              case rel => exact ⟨q, j + 1, by omega, by omega, rfl, by go_num, HK.out, HB2.out, N0.out, N1.out, N2.out⟩
            | false =>
              have HK : Hid (it (sd (ee l)) m (nd (ee l) (q - 1)) = A) := by
                unfold Hid
                have := HI.out
                obtain ⟨q0, rfl⟩ : ∃ q0, q = q0 + 1 := ⟨q - 1, by omega⟩; unfold nd at this; rw [if_neg (by rw [hs]; decide)] at this; exact this
              rw [hs] at C1
              clear hs
              go_wp2_with fail
              refine C1.out.mono ?_
              rintro e w2 ⟨rfl, hq⟩; have hq2 := hq.symm; subst hq2; clear hq; have hb2 := Below.refl wr.heap.size wr
              have HB2 := Hid.mk' (bT HB.out hb2)
              have N0 := Hid.mk' (keepC hb2 M0.out)
              have N1 := Hid.mk' (keepC hb2 M1.out)
              have N2 := Hid.mk' (TC.out.keep hb2)
              clear hb2 cm0 cm1
              have cm0 := N0.out
              go_wp2
              go_roundg g
              case measure => omega
              case rel => exact ⟨q - 1, by omega, by omega, by omega, by go_num, by omega, HK.out, HB2.out, N0.out, N1.out, N2.out⟩
end Go.Proofs.YtkapddemgodamaaDoor
