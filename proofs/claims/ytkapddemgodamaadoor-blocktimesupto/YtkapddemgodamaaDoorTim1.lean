/- BlockTimes walked, at one of the keys. -/
import Derived.Test.YtkapddemgodamaaDoorTim0
namespace Go.Proofs.YtkapddemgodamaaDoor
open Go.RowKit
set_option maxRecDepth 8000 in
set_option maxHeartbeats 8000000 in
theorem times_1 (ao : Option Addr) (n c : Nat) (i cnt : Int) (s : ByteArray) (l : List UInt8) (w : World) (hk : kn s = 1) (h1 : -9223372036854775808 ≤ i) (h2 : i ≤ 9223372036854775807) (h3 : -9223372036854775808 ≤ cnt) (h4 : cnt ≤ 9223372036854775807) (hn : n < 4294967281) (_hc : c ≤ 9223372036854775807) (HG : Hid (Gl w)) (HT : Hid (Tx w ao n c l)) :
    Calls Tryd.prog 4 #[.slice ao n c, .agg #[.int .i64 i, .int .i64 cnt, .string s]] w fun e w' => e = .returned (.bool true) ∧ Below w.heap.size w w' := by
  have hl := HT.out.len
  have hw0 : IntKind.i64.wrap ((n : Int) + 1) = (n : Int) + 1 := by rw [IntKind.wrap_i64]; omega
  have PL := Hid.mk' (fun W => place_eq i (n + 1) W h1 h2 (by omega) (by omega))
  have PC := Hid.mk' (fun W => place_eq cnt 12 W h3 h4 (by omega) (by omega))
  rw [show ((n + 1 : Nat) : Int) = (n : Int) + 1 by omega] at PL
  have hp := plc_lt i (n := n + 1) (by omega)
  have hN := plc_lt cnt (n := 12) (by omega)
  generalize plc i (n + 1) = p at *
  generalize plc cnt 12 = N0 at *
  have hwN : IntKind.i64.wrap ((N0 : Int) + 1) = (N0 : Int) + 1 := by rw [IntKind.wrap_i64]; omega
  obtain ⟨r1, r2, r3, r4, r5⟩ := kn_rules s 1 hk
  have MV := Hid.mk' (fun (q m : Nat) W (hb : Below w.heap.size w W) (hq : q ≤ n) (hm1 : 1 ≤ m) (hm2 : m ≤ 9999) => move_k1 ao n c q m s l W hq hm1 hm2 hk (Hid.mk' (HT.out.keep hb)))
  obtain ⟨S, hS⟩ : ∃ S, S = su (be l) n := ⟨_, rfl⟩
  rw [← hS] at MV
  have HS : Hid (∀ q z, q ≤ n → S q = some z → q < z ∧ z ≤ n) := fun q z hq h => by
    rw [hS] at h
    have := su_some hq h; omega
  clear hS
  go_enter Tryd.func4, Tryd.ntmps4
  go_wp2_with fail
  refine (awake_any _ (Hid.mk' (HG.out.keep (bAlloc (Below.refl _ _) _)))).mono ?_
  rintro e w1 ⟨rfl, hb1⟩
  have B1 := Hid.mk' (bT (bAlloc (Below.refl w.heap.size w) (.cells #[.int .i64 i, .int .i64 cnt, .string s] 28)) hb1)
  have k0 : w1.cell? ⟨w.heap.size, 0, none⟩ = some (.int .i64 i) := keepC hb1 (by simp [go_sem])
  have k1 : w1.cell? ⟨w.heap.size, 1, none⟩ = some (.int .i64 cnt) := keepC hb1 (by simp [go_sem])
  have k2 : w1.cell? ⟨w.heap.size, 2, none⟩ = some (.string s) := keepC hb1 (by simp [go_sem])
  have hz := lt_of_cell k0
  clear hb1
  go_wp2_with fail
  go_quiet ((go_at_call 13; first | (with_reducible exact Calls.quiet_of_same (PL.out _)) | (with_reducible exact Calls.quiet_of_same (PC.out _))))
  have B2 := Hid.mk' (bT B1.out (below_drewN w1 nq))
  replace k2 := keepC (below_drewN w1 nq) k2
  replace hz := lt_of_cell k2
  generalize w1.drewN nq = w2 at *
  clear k0 k1 B1
  go_wp2_with fail
  rw [show (N0 : Int) + 1 = ((N0 + 1 : Nat) : Int) by omega]
  refine (MV.out p (N0 + 1) _ B2.out (by omega) (by omega) (by omega)).mono ?_
  rintro e w3 ⟨rfl, hb3⟩
  have B3 := Hid.mk' (bT B2.out hb3)
  replace k2 := keepC hb3 k2
  clear hb3 B2
  obtain ⟨A, hA⟩ : ∃ A, A = it S (N0 + 1) p := ⟨_, rfl⟩
  rw [← hA]
  have HA := Hid.mk' hA.symm
  clear hA
  obtain ⟨ga, gb, gd, ge, eg, hg⟩ := mvE_parts p 1 A
  rw [eg]
  have HGG := Hid.mk' hg
  clear eg hg
  dsimp only
  rw [show ((N0 + 1 : Nat) : Int) = (N0 : Int) + 1 by omega]
  go_upto_region 12 with fail
  have TB := Hid.mk' (Blk.new w3 30 #[.int .i64 ga, .int .i64 gb, .int .i64 gd])
  have B4 := Hid.mk' (bAlloc B3.out (.cells #[.int .i64 ga, .int .i64 gb, .int .i64 gd] 30))
  replace k2 := keepC (bAlloc (Below.refl _ _) (.cells #[.int .i64 ga, .int .i64 gb, .int .i64 gd] 30)) k2
  generalize w3.alloc (.cells #[.int .i64 ga, .int .i64 gb, .int .i64 gd] 30) = w4 at *
  generalize w3.heap.size = G3 at *
  clear B3 hz
  have K2 := Hid.mk' k2
  clear k2
  go_wp2
  go_loopg [9, 43] (N0 + 1) (fun m x9 x43 wx => ∃ q j : Nat, x9 = .int .i64 q ∧ x43 = .int .i64 j ∧ j + m = N0 + 1 ∧ q ≤ n ∧ Hid (it S m q = A) ∧ Hid (Below w.heap.size w wx) ∧ Hid (wx.cell? ⟨w.heap.size, 2, none⟩ = some (.string s)) ∧ Hid (Blk wx G3 30 #[.int .i64 ga, .int .i64 gb, .int .i64 gd]))
  case atStart => exact ⟨p, 0, rfl, rfl, by omega, by omega, HA.out, B4.out, K2.out, TB.out⟩
  case round =>
    clear B4 K2 TB HA
    obtain ⟨q, j, rfl, rfl, hj, hq, HI, BX, K2, TB⟩ := hrel
    have k2 := K2.out
    have t0 : wr.cell? ⟨G3, 0, none⟩ = some (.int .i64 ga) := TB.out.cell rfl
    have t1 : wr.cell? ⟨G3, 1, none⟩ = some (.int .i64 gb) := TB.out.cell rfl
    have t2 : wr.cell? ⟨G3, 2, none⟩ = some (.int .i64 gd) := TB.out.cell rfl
    have hq0 : (0 : Int) ≤ (q : Int) := by omega
    have hj0 : (0 : Int) ≤ (j : Int) := by omega
    cases gk with
    | zero =>
      have hjz : ¬ ((j : Int) < (N0 : Int) + 1) := by omega
      have e : A = some q := HI.out.symm
      rcases HGG.out with ⟨e2, _⟩ | ⟨q2, e2, rfl, rfl, rfl, rfl⟩
      · rw [e] at e2; cases e2
      · obtain rfl : q = q2 := by rw [e] at e2; exact Option.some.inj e2
        clear e e2 HGG
        go_wp2
        go_ret
        exact ⟨rfl, BX.out⟩
    | succ m =>
      have hjz : (j : Int) < (N0 : Int) + 1 := by omega
      have hjb : (j : Int) ≤ 9999 := by omega
      go_wp2_with fail
      rw [show (1 : Int) = ((1 : Nat) : Int) by rfl]
      refine (MV.out q 1 _ BX.out hq (by omega) (by omega)).mono ?_
      rintro e w5 ⟨rfl, hb5⟩
      rw [it_one]
      have B5 := Hid.mk' (bT BX.out hb5)
      have K5 := Hid.mk' (keepC hb5 k2)
      have TB5 := Hid.mk' (TB.out.keep hb5)
      clear hb5 t0 t1 t2 k2 K2 TB BX
      cases hs : S q with
      | none =>
        have e : A = none := by have := HI.out; rw [← this]; unfold it; rw [hs]; rfl
        rcases HGG.out with ⟨_, rfl, rfl, rfl, rfl⟩ | ⟨q2, e2, _⟩
        · have t0 : w5.cell? ⟨G3, 0, none⟩ = some (.int .i64 0) := TB5.out.cell rfl
          have t1 : w5.cell? ⟨G3, 1, none⟩ = some (.int .i64 0) := TB5.out.cell rfl
          have t2 : w5.cell? ⟨G3, 2, none⟩ = some (.int .i64 0) := TB5.out.cell rfl
          have hzz := lt_of_cell t0
          clear e hs HGG
          unfold mvE
          dsimp only
          go_wp2
          go_ret
          exact ⟨rfl, bAlloc B5.out _⟩
        · rw [e] at e2; cases e2
      | some z =>
        obtain ⟨hz1, hz2⟩ := HS.out q z hq hs
        have HK : Hid (it S m z = A) := by unfold Hid; have := HI.out; unfold it at this; rw [hs] at this; exact this
        have v1 : ¬ ((z : Int) ≤ (q : Int)) := by omega
        have v2 : ¬ ((z : Int) < 0) := by omega
        have v3 : ¬ ((n : Int) < (z : Int)) := by omega
        have k5 := K5.out
        have hzz := lt_of_cell k5
        clear hs HI
        unfold mvE
        dsimp only
        go_wp2
        go_roundg m
        case measure => omega
        case rel => exact ⟨z, j + 1, rfl, by go_num, by omega, hz2, HK.out, bAlloc B5.out _, keepC (bAlloc (Below.refl _ _) _) K5.out, TB5.out.keep (bAlloc (Below.refl _ _) _)⟩
end Go.Proofs.YtkapddemgodamaaDoor
