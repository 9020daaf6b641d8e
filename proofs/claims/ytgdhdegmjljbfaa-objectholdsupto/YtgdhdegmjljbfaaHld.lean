/- ObjectHolds, walked. -/
import Derived.Test.YtgdhdegmjljbfaaLie
import Derived.Laws.RangeString
import Derived.Lib.OthersKept
namespace Go.Proofs.Ytgdhdegmjljbfaa
open Go.RowKit
def s14 : ByteArray := ⟨#[119, 87, 112, 34, 39, 96, 40, 41, 98, 91, 93, 123, 125, 66]⟩
theorem s14_byte {pos : Nat} (h : pos < s14.size) : (s14[pos]'h).toNat < 128 ∧ (s14[pos]'h) ∈ srt := by
  have : ∀ p : Fin 14, (s14[p.val]'(by show p.val < 14; exact p.isLt)).toNat < 128 ∧ (s14[p.val]'(by show p.val < 14; exact p.isLt)) ∈ srt := by decide +kernel
  exact this ⟨pos, h⟩
theorem srt_key {K : UInt8} (h : K ∈ srt) : isS (K.toNat : Int) ∧ ky 97 K = true ∧ ky 105 K = true := by
  have hm : decide (K ∈ srt) = true := by simpa using h
  refine ⟨?_, by unfold ky; rw [hm]; decide, by unfold ky; rw [hm]; decide⟩
  unfold srt at h
  simp only [List.mem_cons, List.not_mem_nil, or_false] at h
  unfold isS isB
  rcases h with rfl | rfl | rfl | rfl | rfl | rfl | rfl | rfl | rfl | rfl | rfl | rfl | rfl | rfl <;> decide
set_option maxRecDepth 8000 in
set_option maxHeartbeats 40000000 in
theorem objectHolds_walk (w : World) (ao : Option Addr) (n c : Nat) (l : List UInt8) (i j : Int) (hn : n ≤ 4398046511103) (hi1 : -9223372036854775808 ≤ i) (hi2 : i ≤ 9223372036854775807) (hj1 : -9223372036854775808 ≤ j) (hj2 : j ≤ 9223372036854775807) (HT : Hid (Tx w ao n c l)) :
    Calls Try.prog 4 #[.slice ao n c, .int .i64 i, .int .i64 j] w fun e w' => e = .returned (.bool true) ∧ Below w.heap.size w w' := by
  have hlen := HT.out.len
  have hw0 : IntKind.i64.wrap ((n : Int) + 1) = ((n + 1 : Nat) : Int) := by rw [IntKind.wrap_i64]; omega
  go_enter Try.func4, Try.ntmps4
  go_wp2_with fail
  refine (awake_any w).mono ?_
  rintro e w1 ⟨rfl, hb1⟩
  have B1 := Hid.mk' hb1
  clear hb1
  go_wp2_with fail
  refine (place_any i (n + 1) w1 hi1 hi2 (by omega) (by omega)).mono ?_
  rintro e w2 ⟨⟨P, hP, rfl⟩, hw⟩
  have hq := hw.symm
  subst hq
  clear hw
  go_wp2_with fail
  refine (place_any j 5 w1 hj1 hj2 (by omega) (by omega)).mono ?_
  rintro e w2 ⟨⟨C, hC, rfl⟩, hw⟩
  have hq := hw.symm
  subst hq
  clear hw
  obtain ⟨N, HN⟩ : ∃ N, Hid (C + 1 = N) := ⟨_, rfl⟩
  have hN1 : 1 ≤ N := by have := HN.out; omega
  have hN2 : N ≤ 5 := by have := HN.out; omega
  have hwC : IntKind.i64.wrap ((C : Int) + 1) = (N : Int) := by have := HN.out; rw [IntKind.wrap_i64]; omega
  go_wp2_with fail
  go_loopg [10] 14 (fun g x10 wx => ∃ pos : Nat, pos + g = 14 ∧ Hid (wx.heap[w1.heap.size]? = some (.stringIter s14 pos)) ∧ Hid (Below w1.heap.size w1 wx))
  case atStart => exact ⟨0, rfl, World.iter_heap w1 s14 0, bAlloc (Below.refl _ _) _⟩
  case round =>
    obtain ⟨pos, hpos, HI, LB⟩ := hrel
    have BW := Hid.mk' (bT B1.out LB.out)
    cases gk with
    | zero =>
      have hnext := fun ty => Lib.run_next_end_at (P := Try.prog) wr w1.heap.size s14 pos ty HI.out (by show ¬ pos < 14; omega)
      go_wp2
      go_ret
      exact ⟨rfl, BW.out⟩
    | succ g =>
      have hp3 : pos < s14.size := by show pos < 14; omega
      obtain ⟨hK2, hK3⟩ := s14_byte hp3
      have hnext := fun ty => Lib.run_next_ascii_at (P := Try.prog) wr w1.heap.size s14 pos ty HI.out hp3 hK2
      have HI1 := Hid.mk' (Lib.iterAt_heap wr w1.heap.size s14 pos (pos + 1) HI.out)
      have LB1 := Hid.mk' (Lib.below_iterAt LB.out (Nat.le_refl _) s14 (pos + 1))
      have BW1 := Hid.mk' (bT B1.out LB1.out)
      have hz1 : w1.heap.size < (wr.iterAt w1.heap.size s14 (pos + 1)).heap.size := by rw [Lib.iterAt_size]; exact (Array.getElem?_eq_some_iff.1 HI.out).1
      generalize wr.iterAt w1.heap.size s14 (pos + 1) = W1 at *
      generalize s14[pos]'hp3 = K at *
      obtain ⟨hkey, hky, hky2⟩ := srt_key hK3
      have CI := Hid.mk' (fun W (hb : Below w.heap.size w W) => select_yes ao n c P N 105 K false l W hn (by omega) hN1 (by omega) hky2 (by decide) hkey (HT.out.keep hb))
      have CA := Hid.mk' (fun W (hb : Below w.heap.size w W) => select_yes ao n c P N 97 K true l W hn (by omega) hN1 (by omega) hky (by decide) hkey (HT.out.keep hb))
      rw [sel_s4] at CI CA
      unfold tg at CI CA
      have LI := Hid.mk' (ly_of l P N (K.toNat : Int) false (by omega) hN1 hkey)
      have LA := Hid.mk' (ly_of l P N (K.toNat : Int) true (by omega) hN1 hkey)
      have hwK : IntKind.u8.wrap ((K.toNat : Nat) : Int) = ((K.toNat : Nat) : Int) := by have := K.toNat_lt; rw [IntKind.wrap_u8]; omega
      have HQB := Hid.mk' (fun hk => hold_q l P N (K.toNat : Int) (by omega) hk)
      have HPP := Hid.mk' (fun (hk : (K.toNat : Int) = 112) => hk ▸ hold_p l P N hN1)
      clear hK3 hK2 hky hky2 BW
      have hconv := conv_tx (tx_lit (l := [K]) (heap_alloc_new W1 (.cells #[.int .u8 (K.toNat : Int)] 5)) rfl (by simp))
      have happ : (⟨#[105]⟩ : ByteArray) ++ ⟨#[K]⟩ = ⟨#[105, K]⟩ := rfl
      have happ2 : (⟨#[97]⟩ : ByteArray) ++ ⟨#[K]⟩ = ⟨#[97, K]⟩ := rfl
      have U2 := Hid.mk' (bAlloc (Below.refl W1.heap.size W1) (.cells #[.int .u8 (K.toNat : Int)] 5))
      simp only [List.length_cons, List.length_nil] at hconv
      have HEND : Hid (∀ W, Below W1.heap.size W1 W → ∃ pos' : Nat, pos' + g = 14 ∧ Hid (W.heap[w1.heap.size]? = some (.stringIter s14 pos')) ∧ Hid (Below w1.heap.size w1 W)) := fun W hW => ⟨pos + 1, by omega, by unfold Hid; rw [hW.block _ hz1]; exact HI1.out, bT LB1.out hW⟩
      obtain ⟨⟨iF, iT, iK, ie⟩, HI4⟩ : ∃ x, Hid (s4 l P N (K.toNat : Int) false = x) := ⟨_, rfl⟩
      obtain ⟨⟨aF, aT, aK, ae⟩, HA4⟩ : ∃ x, Hid (s4 l P N (K.toNat : Int) true = x) := ⟨_, rfl⟩
      rw [HI4.out] at CI LI HQB
      rw [HA4.out] at CA LA HQB
      have HPP2 : Hid ((K.toNat : Int) = 112 → ie = 0 → ae = 0 → aF ≤ iF ∧ iT ≤ aT) := fun hk h1 h2 => by
        have := HPP.out hk
        rw [HI4.out, HA4.out] at this
        exact this h1 h2
      clear HPP
      simp only at CI CA LI LA
      have CLI := Hid.mk' (fun W (hb : Below w.heap.size w W) => lies_any ao n c l iF iT iK ie (K.toNat : Int) W LI.out (HT.out.keep hb))
      have CLA := Hid.mk' (fun W (hb : Below w.heap.size w W) => lies_any ao n c l aF aT aK ae (K.toNat : Int) W LA.out (HT.out.keep hb))
      have HE : Hid ((ie = 130 ∨ ie = 0) ∧ (ae = 130 ∨ ae = 0)) := ⟨by rcases LI.out with h | h; exact .inl h.1; exact .inr h.1, by rcases LA.out with h | h; exact .inl h.1; exact .inr h.1⟩
      clear LI LA HI4 HA4
      -- up to the first call
      go_wp2_with fail
      refine (CI.out _ (bT BW1.out U2.out)).mono ?_
      rintro e w3 ⟨rfl, hb3⟩
      have U3 := Hid.mk' (bT U2.out hb3)
      have U4 := Hid.mk' (bAlloc U3.out (.cells #[.int .i64 iF, .int .i64 iT, .int .i64 iK] 29))
      have KI4 := Hid.mk' (Blk.new w3 29 #[.int .i64 iF, .int .i64 iT, .int .i64 iK])
      have h5 := heap_alloc_new (w3.alloc (.cells #[.int .i64 iF, .int .i64 iT, .int .i64 iK] 29)) (.cells #[.int .u8 (K.toNat : Int)] 5)
      simp only [World.size_alloc] at h5
      have hconv2 := conv_tx (tx_lit (l := [K]) h5 rfl (by simp))
      simp only [List.length_cons, List.length_nil] at hconv2
      have U5 := Hid.mk' (bAlloc U4.out (.cells #[.int .u8 (K.toNat : Int)] 5))
      have KI5 := Hid.mk' (KI4.out.keep (bAlloc (Below.refl _ (w3.alloc (.cells #[.int .i64 iF, .int .i64 iT, .int .i64 iK] 29))) (.cells #[.int .u8 (K.toNat : Int)] 5)))
      clear hb3 hconv h5 U4 KI4
      go_wp2_with fail
      refine (CA.out _ (bT BW1.out U5.out)).mono ?_
      rintro e w5 ⟨rfl, hb5⟩
      have U6 := Hid.mk' (bT U5.out hb5)
      have KI6 := Hid.mk' (KI5.out.keep hb5)
      have hz6 : w3.heap.size < w5.heap.size := KI6.out.lt
      have g0 : w5.cell? ⟨w3.heap.size, 0, none⟩ = some (.int .i64 iF) := KI6.out.cell (j := 0) rfl
      have g1 : w5.cell? ⟨w3.heap.size, 1, none⟩ = some (.int .i64 iT) := KI6.out.cell (j := 1) rfl
      have g2 : w5.cell? ⟨w3.heap.size, 2, none⟩ = some (.int .i64 iK) := KI6.out.cell (j := 2) rfl
      have U7 := Hid.mk' (bAlloc U6.out (.cells #[.int .i64 aF, .int .i64 aT, .int .i64 aK] 29))
      have KI7 := Hid.mk' (KI6.out.keep (bAlloc (Below.refl _ w5) (.cells #[.int .i64 aF, .int .i64 aT, .int .i64 aK] 29)))
      have KA7 := Hid.mk' (Blk.new w5 29 #[.int .i64 aF, .int .i64 aT, .int .i64 aK])
      clear hb5 hconv2 U5 KI5 U3 U6 KI6 CI CA happ happ2
      obtain ⟨hie, hae⟩ := HE.out
      clear HE
      rcases hkey with hk | hk | hk | hk
      · have hk0 : ((K.toNat : Int) == 119) = true := by simp [hk]
        clear hk HQB HPP2
        rcases hie with rfl | rfl <;> rcases hae with rfl | rfl
        all_goals go_wp2_with fail
        all_goals (
          refine (CLI.out _ (bT BW1.out U7.out)).mono ?_
          rintro e w8 ⟨rfl, hb8⟩
          have U8 := Hid.mk' (bT U7.out hb8)
          have KI8 := Hid.mk' (KI7.out.keep hb8)
          have KA8 := Hid.mk' (KA7.out.keep hb8)
          have a0 : w8.cell? ⟨w5.heap.size, 0, none⟩ = some (.int .i64 aF) := KA8.out.cell (j := 0) rfl
          have a1 : w8.cell? ⟨w5.heap.size, 1, none⟩ = some (.int .i64 aT) := KA8.out.cell (j := 1) rfl
          have a2 : w8.cell? ⟨w5.heap.size, 2, none⟩ = some (.int .i64 aK) := KA8.out.cell (j := 2) rfl
          clear hb8 g0 g1 g2 U7 KI7 KA7 hz6
          go_wp2_with fail
          refine (CLA.out _ (bT BW1.out U8.out)).mono ?_
          rintro e w9 ⟨rfl, hb9⟩
          have U9 := Hid.mk' (bT U8.out hb9)
          have KI9 := Hid.mk' (KI8.out.keep hb9)
          have KA9 := Hid.mk' (KA8.out.keep hb9)
          clear hb9 a0 a1 a2 U8 KI8 KA8
          go_wp2
          go_roundg g
          case measure => omega
          case rel => exact HEND.out _ U9.out)
      · have hk0 : ((K.toNat : Int) == 87) = true := by simp [hk]
        have hk1 : ((K.toNat : Int) == 119) = false := by rw [hk]; rfl
        clear hk HQB HPP2
        rcases hie with rfl | rfl <;> rcases hae with rfl | rfl
        all_goals go_wp2_with fail
        all_goals (
          refine (CLI.out _ (bT BW1.out U7.out)).mono ?_
          rintro e w8 ⟨rfl, hb8⟩
          have U8 := Hid.mk' (bT U7.out hb8)
          have KI8 := Hid.mk' (KI7.out.keep hb8)
          have KA8 := Hid.mk' (KA7.out.keep hb8)
          have a0 : w8.cell? ⟨w5.heap.size, 0, none⟩ = some (.int .i64 aF) := KA8.out.cell (j := 0) rfl
          have a1 : w8.cell? ⟨w5.heap.size, 1, none⟩ = some (.int .i64 aT) := KA8.out.cell (j := 1) rfl
          have a2 : w8.cell? ⟨w5.heap.size, 2, none⟩ = some (.int .i64 aK) := KA8.out.cell (j := 2) rfl
          clear hb8 g0 g1 g2 U7 KI7 KA7 hz6
          go_wp2_with fail
          refine (CLA.out _ (bT BW1.out U8.out)).mono ?_
          rintro e w9 ⟨rfl, hb9⟩
          have U9 := Hid.mk' (bT U8.out hb9)
          have KI9 := Hid.mk' (KI8.out.keep hb9)
          have KA9 := Hid.mk' (KA8.out.keep hb9)
          clear hb9 a0 a1 a2 U8 KI8 KA8
          go_wp2
          go_roundg g
          case measure => omega
          case rel => exact HEND.out _ U9.out)
      · have hk0 : ((K.toNat : Int) == 112) = true := by simp [hk]
        have hk0' : ((K.toNat : Int) != 112) = false := by simp [hk]
        have hk1 : ((K.toNat : Int) == 119) = false := by rw [hk]; rfl
        have hk2 : ((K.toNat : Int) == 87) = false := by rw [hk]; rfl
        have HP3 := Hid.mk' (HPP2.out hk)
        clear hk HQB HPP2
        rcases hie with rfl | rfl
        · rcases hae with rfl | rfl
          all_goals go_wp2_with fail
          all_goals (
            refine (CLI.out _ (bT BW1.out U7.out)).mono ?_
            rintro e w8 ⟨rfl, hb8⟩
            have U8 := Hid.mk' (bT U7.out hb8)
            have KI8 := Hid.mk' (KI7.out.keep hb8)
            have KA8 := Hid.mk' (KA7.out.keep hb8)
            have a0 : w8.cell? ⟨w5.heap.size, 0, none⟩ = some (.int .i64 aF) := KA8.out.cell (j := 0) rfl
            have a1 : w8.cell? ⟨w5.heap.size, 1, none⟩ = some (.int .i64 aT) := KA8.out.cell (j := 1) rfl
            have a2 : w8.cell? ⟨w5.heap.size, 2, none⟩ = some (.int .i64 aK) := KA8.out.cell (j := 2) rfl
            clear hb8 g0 g1 g2 U7 KI7 KA7 hz6
            go_wp2_with fail
            refine (CLA.out _ (bT BW1.out U8.out)).mono ?_
            rintro e w9 ⟨rfl, hb9⟩
            have U9 := Hid.mk' (bT U8.out hb9)
            have KI9 := Hid.mk' (KI8.out.keep hb9)
            have KA9 := Hid.mk' (KA8.out.keep hb9)
            clear hb9 a0 a1 a2 U8 KI8 KA8
            go_wp2
            go_roundg g
            case measure => omega
            case rel => exact HEND.out _ U9.out)
        · rcases hae with rfl | rfl
          · go_wp2_with fail
            refine (CLI.out _ (bT BW1.out U7.out)).mono ?_
            rintro e w8 ⟨rfl, hb8⟩
            have U8 := Hid.mk' (bT U7.out hb8)
            have KI8 := Hid.mk' (KI7.out.keep hb8)
            have KA8 := Hid.mk' (KA7.out.keep hb8)
            have a0 : w8.cell? ⟨w5.heap.size, 0, none⟩ = some (.int .i64 aF) := KA8.out.cell (j := 0) rfl
            have a1 : w8.cell? ⟨w5.heap.size, 1, none⟩ = some (.int .i64 aT) := KA8.out.cell (j := 1) rfl
            have a2 : w8.cell? ⟨w5.heap.size, 2, none⟩ = some (.int .i64 aK) := KA8.out.cell (j := 2) rfl
            clear hb8 g0 g1 g2 U7 KI7 KA7 hz6
            go_wp2_with fail
            refine (CLA.out _ (bT BW1.out U8.out)).mono ?_
            rintro e w9 ⟨rfl, hb9⟩
            have U9 := Hid.mk' (bT U8.out hb9)
            have KI9 := Hid.mk' (KI8.out.keep hb9)
            have KA9 := Hid.mk' (KA8.out.keep hb9)
            clear hb9 a0 a1 a2 U8 KI8 KA8
            go_wp2
            go_roundg g
            case measure => omega
            case rel => exact HEND.out _ U9.out
          · obtain ⟨p1, p2⟩ := HP3.out rfl rfl
            go_wp2_with fail
            refine (CLI.out _ (bT BW1.out U7.out)).mono ?_
            rintro e w8 ⟨rfl, hb8⟩
            have U8 := Hid.mk' (bT U7.out hb8)
            have KI8 := Hid.mk' (KI7.out.keep hb8)
            have KA8 := Hid.mk' (KA7.out.keep hb8)
            have a0 : w8.cell? ⟨w5.heap.size, 0, none⟩ = some (.int .i64 aF) := KA8.out.cell (j := 0) rfl
            have a1 : w8.cell? ⟨w5.heap.size, 1, none⟩ = some (.int .i64 aT) := KA8.out.cell (j := 1) rfl
            have a2 : w8.cell? ⟨w5.heap.size, 2, none⟩ = some (.int .i64 aK) := KA8.out.cell (j := 2) rfl
            clear hb8 g0 g1 g2 U7 KI7 KA7 hz6
            go_wp2_with fail
            refine (CLA.out _ (bT BW1.out U8.out)).mono ?_
            rintro e w9 ⟨rfl, hb9⟩
            have U9 := Hid.mk' (bT U8.out hb9)
            have KI9 := Hid.mk' (KI8.out.keep hb9)
            have KA9 := Hid.mk' (KA8.out.keep hb9)
            clear hb9 a0 a1 a2 U8 KI8 KA8
            have g0 : w9.cell? ⟨w3.heap.size, 0, none⟩ = some (.int .i64 iF) := KI9.out.cell (j := 0) rfl
            have g1 : w9.cell? ⟨w3.heap.size, 1, none⟩ = some (.int .i64 iT) := KI9.out.cell (j := 1) rfl
            have a0 : w9.cell? ⟨w5.heap.size, 0, none⟩ = some (.int .i64 aF) := KA9.out.cell (j := 0) rfl
            have a1 : w9.cell? ⟨w5.heap.size, 1, none⟩ = some (.int .i64 aT) := KA9.out.cell (j := 1) rfl
            go_wp2
            go_quiet (fail)
            go_wp2
            go_roundg g
            case measure => omega
            case rel => exact HEND.out _ (bT U9.out (below_drew9 _ _))
      · have hne : ¬ (K.toNat : Int) = 119 ∧ ¬ (K.toNat : Int) = 87 ∧ ¬ (K.toNat : Int) = 112 := by
          rcases hk with hk | hk
          · omega
          · unfold isB at hk; omega
        have hk0 : ((K.toNat : Int) == 112) = false := by simpa using hne.2.2
        have hk0' : ((K.toNat : Int) != 112) = true := by simpa using hne.2.2
        have hk1 : ((K.toNat : Int) == 119) = false := by simpa using hne.1
        have hk2 : ((K.toNat : Int) == 87) = false := by simpa using hne.2.1
        clear hne hie hae HPP2
        rcases HQB.out hk with ⟨h1, h2⟩ | ⟨f, t, F, T, h1, h2, q1, q2, q3, q4, q5, q6⟩
        · injection h1 with x1 h1
          injection h1 with x2 h1
          injection h1 with x3 x4
          injection h2 with y1 h2
          injection h2 with y2 h2
          injection h2 with y3 y4
          subst x1 x2 x3 x4 y1 y2 y3 y4
          clear HQB hk
          go_wp2_with fail
          refine (CLI.out _ (bT BW1.out U7.out)).mono ?_
          rintro e w8 ⟨rfl, hb8⟩
          have U8 := Hid.mk' (bT U7.out hb8)
          have KI8 := Hid.mk' (KI7.out.keep hb8)
          have KA8 := Hid.mk' (KA7.out.keep hb8)
          have a0 : w8.cell? ⟨w5.heap.size, 0, none⟩ = some (.int .i64 0) := KA8.out.cell (j := 0) rfl
          have a1 : w8.cell? ⟨w5.heap.size, 1, none⟩ = some (.int .i64 0) := KA8.out.cell (j := 1) rfl
          have a2 : w8.cell? ⟨w5.heap.size, 2, none⟩ = some (.int .i64 0) := KA8.out.cell (j := 2) rfl
          clear hb8 g0 g1 g2 U7 KI7 KA7 hz6
          go_wp2_with fail
          refine (CLA.out _ (bT BW1.out U8.out)).mono ?_
          rintro e w9 ⟨rfl, hb9⟩
          have U9 := Hid.mk' (bT U8.out hb9)
          have KI9 := Hid.mk' (KI8.out.keep hb9)
          have KA9 := Hid.mk' (KA8.out.keep hb9)
          clear hb9 a0 a1 a2 U8 KI8 KA8
          go_wp2
          go_roundg g
          case measure => omega
          case rel => exact HEND.out _ U9.out
        · injection h1 with x1 h1
          injection h1 with x2 h1
          injection h1 with x3 x4
          injection h2 with y1 h2
          injection h2 with y2 h2
          injection h2 with y3 y4
          subst x1 x2 x3 x4 y1 y2 y3 y4
          clear HQB hk
          have CAB := Hid.mk' (about_any (bi l (f - 1)) (bi l t) (K.toNat : Int))
          have CAB := Hid.mk' (fun W => CAB.out W q6)
          go_wp2_with fail
          refine (CLI.out _ (bT BW1.out U7.out)).mono ?_
          rintro e w8 ⟨rfl, hb8⟩
          have U8 := Hid.mk' (bT U7.out hb8)
          have KI8 := Hid.mk' (KI7.out.keep hb8)
          have KA8 := Hid.mk' (KA7.out.keep hb8)
          have a0 : w8.cell? ⟨w5.heap.size, 0, none⟩ = some (.int .i64 (F : Int)) := KA8.out.cell (j := 0) rfl
          have a1 : w8.cell? ⟨w5.heap.size, 1, none⟩ = some (.int .i64 (T : Int)) := KA8.out.cell (j := 1) rfl
          have a2 : w8.cell? ⟨w5.heap.size, 2, none⟩ = some (.int .i64 1) := KA8.out.cell (j := 2) rfl
          clear hb8 g0 g1 g2 U7 KI7 KA7 hz6
          go_wp2_with fail
          refine (CLA.out _ (bT BW1.out U8.out)).mono ?_
          rintro e w9 ⟨rfl, hb9⟩
          have U9 := Hid.mk' (bT U8.out hb9)
          have KI9 := Hid.mk' (KI8.out.keep hb9)
          have KA9 := Hid.mk' (KA8.out.keep hb9)
          clear hb9 a0 a1 a2 U8 KI8 KA8
          have g0 : w9.cell? ⟨w3.heap.size, 0, none⟩ = some (.int .i64 (f : Int)) := KI9.out.cell (j := 0) rfl
          have g1 : w9.cell? ⟨w3.heap.size, 1, none⟩ = some (.int .i64 (t : Int)) := KI9.out.cell (j := 1) rfl
          have a0 : w9.cell? ⟨w5.heap.size, 0, none⟩ = some (.int .i64 (F : Int)) := KA9.out.cell (j := 0) rfl
          have a1 : w9.cell? ⟨w5.heap.size, 1, none⟩ = some (.int .i64 (T : Int)) := KA9.out.cell (j := 1) rfl
          have p1 : (F : Int) ≤ (f : Int) := by omega
          have p2 : (t : Int) ≤ (T : Int) := by omega
          have p3 : (1 : Int) ≤ (f : Int) := by omega
          have p4 : ¬ ((n : Int) ≤ (t : Int)) := by omega
          have p5 : (t : Int) < (n : Int) := by omega
          have p6 : (0 : Int) ≤ (t : Int) := by omega
          obtain ⟨D, HD⟩ : ∃ D, Hid (f - 1 = D) := ⟨_, rfl⟩
          have hwD : IntKind.i64.wrap ((f : Int) - 1) = (D : Int) := by have := HD.out; rw [IntKind.wrap_i64]; omega
          have p7 : (0 : Int) ≤ (D : Int) := by omega
          have p8 : (D : Int) < (n : Int) := by have := HD.out; omega
          rw [HD.out] at CAB
          obtain ⟨gt, ot, et, hct⟩ := (HT.out.keep (bT BW1.out U9.out)).at (by omega)
          have cD : w9.cell? ⟨gt, ot + D, none⟩ = some (.int .u8 (bi l D)) := hct D (by have := HD.out; omega)
          have cT : w9.cell? ⟨gt, ot + t, none⟩ = some (.int .u8 (bi l t)) := hct t (by omega)
          subst et
          clear hct q1 q2 q3 q4 q5 q6
          generalize bi l D = bD at *
          generalize bi l t = bT9 at *
          go_wp2_with fail
          have p9 : decide ((f : Int) < 1) = false := decide_eq_false (by omega)
          have p10 : decide ((n : Int) ≤ (t : Int)) = false := decide_eq_false (by omega)
          have p11 : decide (n ≤ t) = false := decide_eq_false (by omega)
          go_quiet ((go_at_call 14; exact Calls.quiet_of_same (CAB.out _)))
          go_wp2
          go_roundg g
          case measure => omega
          case rel => exact HEND.out _ (bT U9.out (below_drew9 _ _))
end Go.Proofs.Ytgdhdegmjljbfaa
