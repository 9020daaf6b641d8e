/- ObjectNests, walked. -/
import Derived.Test.YtgdhdegmjljbfaaAwk
import Derived.Laws.RangeString
import Derived.Lib.OthersKept
namespace Go.Proofs.Ytgdhdegmjljbfaa
open Go.RowKit
/-- what a and a bracket choose -/
theorem sel_br {l : List UInt8} {q n : Nat} {k : Int} (hk : isB k) : sel l q n k true = match ba l (op k) (cp k) q n with | none => tg 0 0 0 130 | some x => tg x.1 (x.2 + 1 : Nat) 1 0 := by
  unfold isB at hk
  have e : bnd l q n k true = bx l k q n true := by unfold bnd; rw [if_neg (by omega), if_neg (by omega), if_neg (by omega), if_neg (by omega)]
  unfold sel
  rw [e]
  unfold bx
  cases ba l (op k) (cp k) q n with
  | none => rfl
  | some x => simp only [Option.map_some, if_true]; rw [if_neg (by omega)]
def s3 : ByteArray := ⟨#[40, 91, 123]⟩
set_option maxRecDepth 8000 in
set_option maxHeartbeats 16000000 in
theorem objectNests_walk (w : World) (ao : Option Addr) (n c : Nat) (l : List UInt8) (i j : Int) (hn : n ≤ 4398046511103) (hi1 : -9223372036854775808 ≤ i) (hi2 : i ≤ 9223372036854775807) (hj1 : -9223372036854775808 ≤ j) (hj2 : j ≤ 9223372036854775807) (HT : Hid (Tx w ao n c l)) :
    Calls Try.prog 5 #[.slice ao n c, .int .i64 i, .int .i64 j] w fun e w' => e = .returned (.bool true) ∧ Below w.heap.size w w' := by
  have hlen := HT.out.len
  have hw0 : IntKind.i64.wrap ((n : Int) + 1) = ((n + 1 : Nat) : Int) := by rw [IntKind.wrap_i64]; omega
  go_enter Try.func5, Try.ntmps5
  go_wp2_with fail
  refine (awake_any w).mono ?_
  rintro e w1 ⟨rfl, hb1⟩
  have B1 := Hid.mk' hb1
  clear hb1
  go_wp2_with fail
  refine (place_any i (n + 1) w1 hi1 hi2 (by omega) (by omega)).mono ?_
  rintro e w2 ⟨⟨P, hP, rfl⟩, hw⟩
  have hq := hw.symm
  subst hq
  clear hw
  go_wp2_with fail
  refine (place_any j 6 w1 hj1 hj2 (by omega) (by omega)).mono ?_
  rintro e w2 ⟨⟨C, hC, rfl⟩, hw⟩
  have hq := hw.symm
  subst hq
  clear hw
  obtain ⟨N, HN⟩ : ∃ N, Hid (C + 1 = N) := ⟨_, rfl⟩
  have hN1 : 1 ≤ N := by have := HN.out; omega
  have hN2 : N ≤ 6 := by have := HN.out; omega
  have hwC : IntKind.i64.wrap ((C : Int) + 1) = (N : Int) := by have := HN.out; rw [IntKind.wrap_i64]; omega
  obtain ⟨M, HM⟩ : ∃ M, Hid (N + 1 = M) := ⟨_, rfl⟩
  have hM1 : 1 ≤ M := by have := HM.out; omega
  have hM2 : M ≤ 7 := by have := HM.out; omega
  have hwM : IntKind.i64.wrap ((N : Int) + 1) = (M : Int) := by have := HM.out; rw [IntKind.wrap_i64]; omega
  go_wp2_with fail
  go_loopg [10] 3 (fun g x10 wx => ∃ pos : Nat, pos + g = 3 ∧ Hid (wx.heap[w1.heap.size]? = some (.stringIter s3 pos)) ∧ Hid (Below w1.heap.size w1 wx))
  case atStart => exact ⟨0, rfl, World.iter_heap w1 s3 0, bAlloc (Below.refl _ _) _⟩
  case round =>
    obtain ⟨pos, hpos, HI, LB⟩ := hrel
    have BW := Hid.mk' (bT B1.out LB.out)
    cases gk with
    | zero =>
      have hnext := fun ty => Lib.run_next_end_at (P := Try.prog) wr w1.heap.size s3 pos ty HI.out (by show ¬ pos < 3; omega)
      go_wp2
      go_ret
      exact ⟨rfl, BW.out⟩
    | succ g =>
      have hp3 : pos < s3.size := by show pos < 3; omega
      have hbyte : ∃ K : UInt8, s3[pos]'hp3 = K ∧ K.toNat < 128 ∧ (K = 40 ∨ K = 91 ∨ K = 123) := by
        rcases (by omega : pos = 0 ∨ pos = 1 ∨ pos = 2) with h | h | h
        · subst h; exact ⟨40, rfl, by decide, .inl rfl⟩
        · subst h; exact ⟨91, rfl, by decide, .inr (.inl rfl)⟩
        · subst h; exact ⟨123, rfl, by decide, .inr (.inr rfl)⟩
      obtain ⟨K, hK1, hK2, hK3⟩ := hbyte
      have hnext := fun ty => Lib.run_next_ascii_at (P := Try.prog) wr w1.heap.size s3 pos ty HI.out hp3 (by rw [hK1]; exact hK2)
      rw [hK1] at hnext
      have HI1 := Hid.mk' (Lib.iterAt_heap wr w1.heap.size s3 pos (pos + 1) HI.out)
      have LB1 := Hid.mk' (Lib.below_iterAt LB.out (Nat.le_refl _) s3 (pos + 1))
      have BW1 := Hid.mk' (bT B1.out LB1.out)
      have hz1 : w1.heap.size < (wr.iterAt w1.heap.size s3 (pos + 1)).heap.size := by rw [Lib.iterAt_size]; exact (Array.getElem?_eq_some_iff.1 HI.out).1
      generalize wr.iterAt w1.heap.size s3 (pos + 1) = W1 at *
      clear hK1 hK2 BW
      have hkey : isB (K.toNat : Int) := by rcases hK3 with rfl | rfl | rfl <;> (unfold isB; decide)
      have hky : ky 97 K = true := by rcases hK3 with rfl | rfl | rfl <;> decide
      have CS := Hid.mk' (fun W (hb : Below w.heap.size w W) q cnt (hq : q ≤ n) (h1 : 1 ≤ cnt) (h2 : cnt ≤ 9999) => select_yes ao n c q cnt 97 K true l W hn hq h1 h2 hky (by decide) (.inr (.inr (.inr (.inr hkey)))) (HT.out.keep hb))
      have HSB := Hid.mk' (fun q cnt => sel_br (l := l) (q := q) (n := cnt) hkey)
      have hwK : IntKind.u8.wrap ((K.toNat : Nat) : Int) = ((K.toNat : Nat) : Int) := by have := K.toNat_lt; rw [IntKind.wrap_u8]; omega
      clear hK3 hkey hky
      have hconv := conv_tx (tx_lit (l := [K]) (heap_alloc_new W1 (.cells #[.int .u8 (K.toNat : Int)] 5)) rfl (by simp))
      have happ : (⟨#[97]⟩ : ByteArray) ++ ⟨#[K]⟩ = ⟨#[97, K]⟩ := rfl
      have U2 := Hid.mk' (bAlloc (Below.refl W1.heap.size W1) (.cells #[.int .u8 (K.toNat : Int)] 5))
      simp only [List.length_cons, List.length_nil] at hconv
      have HEND : Hid (∀ W, Below W1.heap.size W1 W → ∃ pos' : Nat, pos' + g = 3 ∧ Hid (W.heap[w1.heap.size]? = some (.stringIter s3 pos')) ∧ Hid (Below w1.heap.size w1 W)) := fun W hW => ⟨pos + 1, by omega, by unfold Hid; rw [hW.block _ hz1]; exact HI1.out, bT LB1.out hW⟩
      generalize op (K.toNat : Int) = O at *
      generalize cp (K.toNat : Int) = Cl at *
      go_wp2_with fail
      obtain ⟨r1, Hr1⟩ : ∃ r, Hid (ba l O Cl P N = r) := ⟨_, rfl⟩
      obtain ⟨r2, Hr2⟩ : ∃ r, Hid (ba l O Cl P M = r) := ⟨_, rfl⟩
      have SP := Hid.mk' (HSB.out P N)
      have SQ := Hid.mk' (HSB.out P M)
      rw [Hr1.out] at SP
      rw [Hr2.out] at SQ
      cases r1 with
      | none =>
        obtain rfl : r2 = none := by rw [← Hr2.out, ← HM.out]; exact ba_none Hr1.out
        have S1 : Hid (sel l P N (K.toNat : Int) true = tg 0 0 0 130) := SP.out
        have S2 : Hid (sel l P M (K.toNat : Int) true = tg 0 0 0 130) := SQ.out
        refine (CS.out _ (bT BW1.out U2.out) P N (by omega) hN1 (by omega)).mono ?_
        rintro e w3 ⟨he, hb3⟩
        rw [S1.out] at he
        unfold tg at he
        subst he
        have U3 := Hid.mk' (bT U2.out hb3)
        clear hb3 hconv happ
        go_wp2_with fail
        have U4 := Hid.mk' (bAlloc U3.out (.cells #[.int .i64 0, .int .i64 0, .int .i64 0] 29))
        refine (CS.out _ (bT BW1.out U4.out) P M (by omega) hM1 (by omega)).mono ?_
        rintro e w5 ⟨he, hb5⟩
        rw [S2.out] at he
        unfold tg at he
        subst he
        have U5 := Hid.mk' (bT U4.out hb5)
        clear hb5 U4
        go_wp2
        go_roundg g
        case measure => omega
        case rel => exact HEND.out _ (bAlloc U5.out _)
      | some x =>
        obtain ⟨x1, x2⟩ := x
        have hmem := ba_mem Hr1.out
        have hpm := prs_mem hmem.1
        have hF := ba_from hmem.1
        have hTo := ba_to hmem.1
        simp only at hmem hpm hF hTo
        obtain ⟨T, HTT⟩ : ∃ T, Hid (x2 + 1 = T) := ⟨_, rfl⟩
        have S1 : Hid (sel l P N (K.toNat : Int) true = tg x1 T 1 0) := by unfold Hid; rw [SP.out, ← HTT.out]
        have S3 : Hid (sel l x1 1 (K.toNat : Int) true = tg x1 T 1 0) := by unfold Hid; rw [HSB.out, hF, ← HTT.out]
        have S4 : Hid (sel l x2 1 (K.toNat : Int) true = tg x1 T 1 0) := by unfold Hid; rw [HSB.out, hTo, ← HTT.out]
        have hx2n : x2 < n := by omega
        have hx1n : x1 ≤ n := by omega
        have t1 : (x1 : Int) ≤ (P : Int) := by omega
        have t2 : (P : Int) < (T : Int) := by have := HTT.out; omega
        have hwT : IntKind.i64.wrap ((T : Int) - 1) = (x2 : Int) := by have := HTT.out; rw [IntKind.wrap_i64]; omega
        have HS2 : Hid (∃ a b k e : Int, sel l P M (K.toNat : Int) true = tg a b k e ∧ ((e == 0) = false ∨ ((e == 0) = true ∧ ¬ ((x1 : Int) ≤ a) ∧ ¬ (b ≤ (T : Int))))) := by
          unfold Hid
          rw [SQ.out]
          cases r2 with
          | none => exact ⟨0, 0, 0, 130, rfl, .inl rfl⟩
          | some y =>
            have := ba_next hN1 Hr1.out (HM.out ▸ Hr2.out)
            have e9 := HTT.out
            exact ⟨_, _, _, _, rfl, .inr ⟨rfl, by simp only at this; omega, by simp only at this; omega⟩⟩
        clear SP SQ Hr1 Hr2 hmem hpm hF hTo
        obtain ⟨a, b, k9, e9, S2, hcase⟩ := HS2.out
        have S2 := Hid.mk' S2
        clear HS2
        refine (CS.out _ (bT BW1.out U2.out) P N (by omega) hN1 (by omega)).mono ?_
        rintro e w3 ⟨he, hb3⟩
        rw [S1.out] at he
        unfold tg at he
        subst he
        have U3 := Hid.mk' (bT U2.out hb3)
        clear hb3 hconv happ
        go_wp2_with fail
        have U4 := Hid.mk' (bAlloc U3.out (.cells #[.int .i64 (x1 : Int), .int .i64 (T : Int), .int .i64 1] 29))
        have KG := Hid.mk' (Blk.new w3 29 #[.int .i64 (x1 : Int), .int .i64 (T : Int), .int .i64 1])
        refine (CS.out _ (bT BW1.out U4.out) P M (by omega) hM1 (by omega)).mono ?_
        rintro e w5 ⟨he, hb5⟩
        rw [S2.out] at he
        unfold tg at he
        subst he
        have U5 := Hid.mk' (bT U4.out hb5)
        have KG5 := Hid.mk' (KG.out.keep hb5)
        have g0 : w5.cell? ⟨w3.heap.size, 0, none⟩ = some (.int .i64 (x1 : Int)) := KG5.out.cell (j := 0) rfl
        have g1 : w5.cell? ⟨w3.heap.size, 1, none⟩ = some (.int .i64 (T : Int)) := KG5.out.cell (j := 1) rfl
        have g2 : w5.cell? ⟨w3.heap.size, 2, none⟩ = some (.int .i64 1) := KG5.out.cell (j := 2) rfl
        have hz3 : w3.heap.size < w5.heap.size := KG5.out.lt
        clear hb5 U4 KG U3
        have U6 := Hid.mk' (bAlloc U5.out (.cells #[.int .i64 a, .int .i64 b, .int .i64 k9] 29))
        have KG6 := Hid.mk' (KG5.out.keep (bAlloc (Below.refl _ w5) (.cells #[.int .i64 a, .int .i64 b, .int .i64 k9] 29)))
        rcases hcase with hc1 | ⟨hc1, hc2, hc3⟩
        all_goals go_wp2_with fail
        all_goals (
          refine (CS.out _ (bT BW1.out U6.out) x1 1 hx1n (by omega) (by omega)).mono ?_
          rintro e w7 ⟨he, hb7⟩
          rw [S3.out] at he
          unfold tg at he
          subst he
          have U7 := Hid.mk' (bT U6.out hb7)
          have KG7 := Hid.mk' (KG6.out.keep hb7)
          have g10 : w7.cell? ⟨w3.heap.size, 0, none⟩ = some (.int .i64 (x1 : Int)) := KG7.out.cell (j := 0) rfl
          have g11 : w7.cell? ⟨w3.heap.size, 1, none⟩ = some (.int .i64 (T : Int)) := KG7.out.cell (j := 1) rfl
          have g12 : w7.cell? ⟨w3.heap.size, 2, none⟩ = some (.int .i64 1) := KG7.out.cell (j := 2) rfl
          have hz7 : w3.heap.size < w7.heap.size := KG7.out.lt
          clear hb7 g0 g1 g2 hz3 U6 KG6 KG5 U5
          go_wp2_with fail
          have U8 := Hid.mk' (bAlloc U7.out (.cells #[.int .i64 (x1 : Int), .int .i64 (T : Int), .int .i64 1] 29))
          have KX8 := Hid.mk' (Blk.new w7 29 #[.int .i64 (x1 : Int), .int .i64 (T : Int), .int .i64 1])
          have KG8 := Hid.mk' (KG7.out.keep (bAlloc (Below.refl _ w7) (.cells #[.int .i64 (x1 : Int), .int .i64 (T : Int), .int .i64 1] 29)))
          refine (CS.out _ (bT BW1.out U8.out) x2 1 (by omega) (by omega) (by omega)).mono ?_
          rintro e w9 ⟨he, hb9⟩
          rw [S4.out] at he
          unfold tg at he
          subst he
          have U9 := Hid.mk' (bT U8.out hb9)
          have KG9 := Hid.mk' (KG8.out.keep hb9)
          have KX9 := Hid.mk' (KX8.out.keep hb9)
          have g20 : w9.cell? ⟨w3.heap.size, 0, none⟩ = some (.int .i64 (x1 : Int)) := KG9.out.cell (j := 0) rfl
          have g21 : w9.cell? ⟨w3.heap.size, 1, none⟩ = some (.int .i64 (T : Int)) := KG9.out.cell (j := 1) rfl
          have g22 : w9.cell? ⟨w3.heap.size, 2, none⟩ = some (.int .i64 1) := KG9.out.cell (j := 2) rfl
          have g30 : w9.cell? ⟨w7.heap.size, 0, none⟩ = some (.int .i64 (x1 : Int)) := KX9.out.cell (j := 0) rfl
          have g31 : w9.cell? ⟨w7.heap.size, 1, none⟩ = some (.int .i64 (T : Int)) := KX9.out.cell (j := 1) rfl
          have g32 : w9.cell? ⟨w7.heap.size, 2, none⟩ = some (.int .i64 1) := KX9.out.cell (j := 2) rfl
          have hz8 : w3.heap.size < w9.heap.size := KG9.out.lt
          have hz9 : w7.heap.size < w9.heap.size := KX9.out.lt
          clear hb9 g10 g11 g12 hz7 KG7 KG8 KX8 U7 U8 KG9 KX9
          go_wp2
          go_roundg g
          case measure => omega
          case rel => exact HEND.out _ (bAlloc U9.out _))
end Go.Proofs.Ytgdhdegmjljbfaa
