/- The walk of quoinlaw08.WordKinds. -/
import Derived.Test.YtomekjakjgfjdaaKin
import Derived.Test.YtomekjakjgfjdaaLent
import Derived.Test.YtomekjakjgfjdaaSteps
import Derived.Deep.CutRange
namespace Go.Proofs.Ytomekjakjgfjdaa
open Go.RowKit

theorem tx_own {w : World} {au : Option Addr} {cu base n : Nat} {U : List UInt8} (hl : U.length = n) (hb : n ≤ 140737488355328) (h : w.ownsRow base 5 1 (.slice au n cu) n (bv U)) : Tx w au n cu U := by
  rcases Nat.eq_zero_or_pos n with h0 | h0
  · subst h0
    refine ⟨hl, Nat.zero_le _, hb, fun e => ?_, fun a _ j hj => by omega⟩
    rcases h.2 with ⟨hv, _⟩ | ⟨g, cap, cur, hv, _⟩
    · simp at hv; exact hv.2
    · rw [e] at hv; simp at hv
  · obtain ⟨g, cap, hv, hc1, hc2⟩ := own_some h h0
    simp at hv
    obtain ⟨rfl, rfl⟩ := hv
    refine ⟨hl, hc1, hb, (fun h => by cases h), fun a ha j hj => ?_⟩
    obtain rfl : (⟨g, 0, none⟩ : Addr) = a := by simpa using ha
    rw [add_none, Nat.zero_add, h.cellAt j (by omega)]
    exact bv_at U j (by omega)
theorem bv_set (U : List UInt8) (j : Nat) (b : UInt8) : (bv U).set j (.int .u8 (b.toNat : Int)) = bv (U.set j b) := by unfold bv; rw [List.map_set]

set_option maxRecDepth 100000 in
set_option maxHeartbeats 4000000 in
theorem wordKinds_walk (ao : Option Addr) (n c : Nat) (i M C : Int) (s : ByteArray) (l : List UInt8) (O : Array Value) (ot : Nat → UInt8) (w : World) (hbig : n ≤ 140737488351232) (HT : Hid (Tx w ao n c l)) (hO : Hid (O.size = 256 ∧ ∀ j, j < 256 → O[j]? = some (.int .u8 ((ot j).toNat : Int)))) :
    Calls Try.prog 7 #[.agg #[.slice ao n c, .int .i64 i, .int .i64 M, .int .i64 C, .string s], .agg O] w fun e w' => e = .returned (.bool true) ∧ Below w.heap.size w w' := by
  obtain ⟨i0, hi, hz0, hz1, hz2⟩ := info_parts info5
  have hlen := Hid.mk' HT.out.len
  go_enter Try.func7, Try.ntmps7
  go_wp2_with fail
  refine (alive_any _).mono ?_
  rintro e w1 ⟨rfl, hb1⟩
  have c0 : w1.cell? ⟨w.heap.size, 0, none⟩ = some (.slice ao n c) := keepC hb1 (by simp [go_sem])
  have c1 : w1.cell? ⟨w.heap.size, 1, none⟩ = some (.int .i64 i) := keepC hb1 (by simp [go_sem])
  have c3 : w1.cell? ⟨w.heap.size, 3, none⟩ = some (.int .i64 C) := keepC hb1 (by simp [go_sem])
  have c4 : w1.cell? ⟨w.heap.size, 4, none⟩ = some (.string s) := keepC hb1 (by simp [go_sem])
  have HO := Hid.mk' (fun j (hj : j < 256) => keepC hb1 (b := w.heap.size + 1) (o := j) (v := .int .u8 ((ot j).toNat : Int)) (by
    have e := hO.out.2 j hj
    have : w.heap.size + 1 = (w.alloc (.cells #[.slice ao n c, .int .i64 i, .int .i64 M, .int .i64 C, .string s] 35)).heap.size := by simp
    rw [this, World.cell?_alloc_mark]
    exact e))
  have hzw : w.heap.size < w1.heap.size := lt_of_cell c0
  have B1 := Hid.mk' (bT (bAlloc (bAlloc (Below.refl _ _) _) _) hb1)
  clear hb1 hO
  go_wp2_with fail
  refine (keys_any s _).mono ?_
  rintro e w9 ⟨rfl, hw⟩
  have hqq := hw.symm
  subst hqq
  clear hw
  obtain ⟨key, hkey⟩ : ∃ key, key = kS s := ⟨_, rfl⟩
  rw [← hkey]
  have hkn : Hid (kn key ≠ 0) := by rw [hkey]; exact kS_ne s
  clear hkey
  go_upto_region 4 with fail
  go_cut [6] from 19 to 33 (fun x6 wx => x6 = .bool (mB (kn key)) ∧ wx = w1)
  case first =>
    have hk := hkn.out
    refine kn_cases (P := fun k => kn key = k → _) (kn key) (kn_le key) (fun h => absurd h hk) ?_ ?_ ?_ ?_ ?_ ?_ ?_ ?_ rfl
    all_goals
      intro hk
      obtain ⟨r1, r2, r3, r4, r5, r6, r7, r8⟩ := kn_rules key _ hk
      have HKK := Hid.mk' hk
      clear hk
      go_wp2
      go_meet
      case rel => exact ⟨by rw [HKK.out]; rfl, rfl⟩
  case rest =>
    obtain ⟨rfl, rfl⟩ := hcut
    have HK : Hid (∀ u, Kin u l (mB (kn key)) → ∀ i cnt, mv u i cnt key = mv l i cnt key) := fun u h i cnt => h.mv i cnt
    generalize mB (kn key) = big at *
    have T1 := Hid.mk' (HT.out.keep B1.out)
    go_wp2_with (at_builtin; refine append_srv rfl (.tmp 33) (.tmp 35) 22 rfl wc.heap.size 5 i0 (.int .u8 0) 1 1 Try.underlying22 hi hz0 hz1 hz2 rfl (by decide) (.slice (some ⟨wc.heap.size, 0, none⟩) 0 0) 0 [] rfl (World.ownsRow_made wc #[] 0 (Nat.le_refl _) (Nat.zero_le _) rfl) (.slice ao n c) n (bv l) rfl ?qc2 ?qc1 ?qc3 ?qc4 ?qc5 ?qc6 ?_)
    case qc1 => rw [bv_length, hlen.out]; omega
    case qc2 => exact (T1.out.keep (bAlloc (Below.refl _ _) _)).srv
    case qc3 => exact bv_one l
    case qc4 => unfold maxLen; omega
    case qc5 => omega
    case qc6 => simp
    intro v1 w4 hown hgrow _
    have HW1 : w4.ownsRow wc.heap.size 5 1 v1 n (bv l) := by simpa using hown
    have L1 : Below wc.heap.size wc w4 := ((Below.refl _ wc).alloc (Nat.le_refl _) _).grown hgrow (by simp) (by intro k hk; simp [Value.ownBlock] at hk; omega)
    have R1 := Hid.mk' ((Rws.nil wc).new L1 HW1)
    obtain ⟨au, cu, hv1⟩ := own_shape HW1
    subst hv1
    clear hown hgrow HW1 L1
    go_wp2_with fail
    go_loopw [8] (fun u wr => ∃ (t : Nat) (U : List UInt8), u = .int .i64 t ∧ t ≤ n ∧ Kin U l big ∧ Rws wc wr [⟨5, 1, .slice au n cu, n, bv U⟩]) (fun u _ => n - (intOf u).toNat)
    case atStart => exact ⟨0, l, rfl, Nat.zero_le _, Kin.refl _ _, R1.out⟩
    case round =>
      obtain ⟨t, U, rfl, ht, hK, hR⟩ := hrel
      have KU := Hid.mk' hK
      have R2 := Hid.mk' hR
      have hUl : Hid (U.length = n) := hK.len.trans hlen.out
      clear hK hR R1
      have ht0 : (0 : Int) ≤ (t : Int) := by omega
      by_cases hlt : t < n
      · have ht1 : (t : Int) < (n : Int) := by omega
        have O2 := Hid.mk' (R2.out.own 0 _ rfl)
        obtain ⟨g, cap, hv, -, -⟩ := own_some O2.out (show 1 ≤ n by omega)
        have hv2 : au = some ⟨g, 0, none⟩ := by simp at hv; exact hv.1
        subst hv2
        have hc1 : wr.cell? ⟨g, t, none⟩ = some (.int .u8 ((at8 U t).toNat : Int)) := by
          rw [O2.out.cellAt t (by show t < n * 1; omega)]
          exact bv_at U t (by have := hUl.out; omega)
        have fz := O2.out.frozenAt t
        have h256 : (at8 U t).toNat < 256 := (at8 U t).toNat_lt
        have hc2 := keepC R2.out.bel (HO.out _ h256)
        have h256' : ((at8 U t).toNat : Int) < 256 := by omega
        obtain ⟨b, hb⟩ : ∃ b, b = ot (at8 U t).toNat := ⟨_, rfl⟩
        rw [← hb] at hc2
        have hbb : (b.toNat : Int) ≤ 255 := by have := b.toNat_lt; omega
        clear hv hb
        cases he : (kd (b.toNat : Int) big == kd ((at8 U t).toNat : Int) big) with
        | true =>
          have KV := Hid.mk' (KU.out.set (j := t) (b := b) (by have := hlen.out; omega) (by simpa using he))
          go_wp2
          go_quiet ((go_at_call 15; exact Calls.quiet_of_same (of_any _ _ _)))
          have R3 := Hid.mk' ((R2.out.keep (below_drewN wr nq)).store (i := 0) rfl t (.int .u8 (b.toNat : Int)))
          have hc3 := keepC (below_drewN wr nq) hc1
          have fz3 : (wr.drewN nq).frozen? ⟨g, t, none⟩ = false := fz
          generalize wr.drewN nq = w8 at *
          clear hc1 hc2 fz
          go_wp2
          go_roundw
          case rel => exact ⟨t + 1, U.set t b, by go_num, by omega, KV.out, by rw [← bv_set]; exact R3.out⟩
          case measure => first | (simp [intOf]; done) | (simp [intOf]; omega)
        | false =>
          go_wp2
          go_quiet ((go_at_call 15; exact Calls.quiet_of_same (of_any _ _ _)))
          have R3 := Hid.mk' (R2.out.keep (below_drewN wr nq))
          generalize wr.drewN nq = w8 at *
          clear hc1 hc2 fz
          go_wp2
          go_roundw
          case rel => exact ⟨t + 1, U, by go_num, by omega, KU.out, R3.out⟩
          case measure => first | (simp [intOf]; done) | (simp [intOf]; omega)
      · have ht1 : ¬ (t : Int) < (n : Int) := by omega
        have c0' := keepC R2.out.bel c0
        have c1' := keepC R2.out.bel c1
        have c3' := keepC R2.out.bel c3
        have TU := Hid.mk' (tx_own hUl.out (by omega) (R2.out.own 0 _ rfl))
        have BB := Hid.mk' (bT B1.out R2.out.bel)
        have TL := Hid.mk' (HT.out.keep BB.out)
        have HM := Hid.mk' (HK.out U KU.out i C)
        clear c0 c1 c3 R2
        go_wp2_with fail
        refine (move_any ao n c i C l key _ TL).mono ?_
        rintro e w5 ⟨rfl, hb5⟩
        obtain ⟨X, hX⟩ : ∃ X, X = mv l i C key := ⟨_, rfl⟩
        rw [← hX, mvE_def]
        have HX := Hid.mk' hX
        clear hX
        obtain ⟨x0, x1, x2, x3⟩ := X
        dsimp only
        have c1'' := keepC hb5 c1'
        have c3'' := keepC hb5 c3'
        have B5 := Hid.mk' (bT BB.out hb5)
        have T5 := Hid.mk' (TU.out.keep hb5)
        have hz5 : w.heap.size < w5.heap.size := lt_of_cell c1''
        clear hb5 c0' c1' c3' BB TL TU
        go_wp2_with fail
        refine (move_any au n cu i C U key _ (Hid.mk' (T5.out.keep (bAlloc (Below.refl _ _) _)))).mono ?_
        rintro e w6 ⟨rfl, hb6⟩
        have d0 : w6.cell? ⟨w5.heap.size, 0, none⟩ = some (.int .i64 x0) := keepC hb6 (by simp [go_sem])
        have d1 : w6.cell? ⟨w5.heap.size, 1, none⟩ = some (.int .i64 x1) := keepC hb6 (by simp [go_sem])
        have d2 : w6.cell? ⟨w5.heap.size, 2, none⟩ = some (.int .i64 x2) := keepC hb6 (by simp [go_sem])
        have hz6 : w5.heap.size < w6.heap.size := lt_of_cell d0
        have B6 := Hid.mk' (bT (bAlloc B5.out _) hb6)
        clear hb6
        rw [HM.out, ← HX.out, mvE_def]
        dsimp only
        go_wp2
        go_ret
        exact ⟨by first | rfl | simp, bAlloc B6.out _⟩
end Go.Proofs.Ytomekjakjgfjdaa
