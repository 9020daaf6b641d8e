/- ExtentOf and ExtentWhole walked. -/
import Derived.Test.YtbknnicpdkpmiaaAwk
namespace Go.Proofs.Ytbknnicpdkpmiaa
open Go.RowKit

set_option maxRecDepth 8000
theorem rof_any (ao : Option Addr) (n c : Nat) (i j k : Int) (s : ByteArray) (l : List UInt8) (w : World) (HT : Hid (Tx w ao n c l)) :
    Calls Try.prog 9 #[.slice ao n c, .agg #[.int .i64 i, .int .i64 j, .int .i64 k], .string s] w fun e w' => e = rt (ofr l i j k (opn s)) ∧ Below w.heap.size w w' := by
  unfold ofr
  have hl := HT.out.len
  cases h : (plB l i && plB l j && kdB k && opB (opn s)) with
  | false =>
    have hx : i < 0 ∨ j < 0 ∨ (n : Int) < i ∨ (n : Int) < j ∨ kdB k = false ∨ opB (opn s) = false := by
      cases h1 : plB l i with
      | false => have := of_decide_eq_false h1; omega
      | true =>
        cases h2 : plB l j with
        | false => have := of_decide_eq_false h2; omega
        | true =>
          rw [h1, h2] at h
          cases h3 : kdB k with
          | false => simp
          | true => rw [h3] at h; simp at h; simp [h]
    by_cases hlt : j < i
    · exact rof_no_ge ao n c i j k s w hlt (by rcases hx with h | h | h | h | h | h <;> (try (exact .inr (.inr (.inl h)))) <;> (try (exact .inr (.inr (.inr h)))) <;> omega)
    · exact rof_no_le ao n c i j k s w (by omega) (by rcases hx with h | h | h | h | h | h <;> (try (exact .inr (.inr (.inl h)))) <;> (try (exact .inr (.inr (.inr h)))) <;> omega)
  | true =>
    simp only [Bool.and_eq_true] at h
    obtain ⟨⟨⟨h1, h2⟩, h3⟩, h4⟩ := h
    obtain ⟨I, rfl, hi⟩ := pl_yes h1
    obtain ⟨J, rfl, hj⟩ := pl_yes h2
    rw [if_pos rfl]
    rcases Nat.lt_or_ge J I with hlt | hle
    · have e1 : (min (I : Int) J).toNat = J := by omega
      have e2 : (max (I : Int) J).toNat = I := by omega
      rw [e1, e2]
      exact rof_ge ao n c I J k s l w (by omega) (by omega) hlt h3 h4 HT
    · have e1 : (min (I : Int) J).toNat = I := by omega
      have e2 : (max (I : Int) J).toNat = J := by omega
      rw [e1, e2]
      exact rof_le ao n c I J k s l w (by omega) (by omega) hle h3 h4 HT
set_option maxHeartbeats 2000000 in
theorem extentOf_walk (ao : Option Addr) (n c : Nat) (i j k : Int) (s : ByteArray) (l : List UInt8) (w : World) (HT : Hid (Tx w ao n c l)) :
    Calls Try.prog 3 #[.slice ao n c, .agg #[.int .i64 i, .int .i64 j, .int .i64 k], .string s] w fun e w' => e = .returned (.bool true) ∧ Below w.heap.size w w' := by
  have C1 := Hid.mk' (fun W (h : Below w.heap.size w W) => rof_any ao n c i j k s l W (HT.out.keep h))
  have C2 := Hid.mk' (fun W (h : Below w.heap.size w W) => of_any ao n c i j k s l W (HT.out.keep h))
  have HR := Hid.mk' trivial
  generalize ofr l i j k (opn s) = R at *
  obtain ⟨F, T, L, D, E⟩ := R
  have G0 := Hid.mk' (Blk.new w 24 #[.int .i64 i, .int .i64 j, .int .i64 k])
  clear HR
  unfold rt at C1 C2
  dsimp only at C1 C2
  go_enter Try.func3, Try.ntmps3
  go_wp2_with fail
  refine (alive_any _).mono ?_
  rintro e w1 ⟨rfl, hb1⟩
  have B1 := Hid.mk' (bT (bAlloc (Below.refl _ w) (.cells #[.int .i64 i, .int .i64 j, .int .i64 k] 24)) hb1)
  have G1 := Hid.mk' (G0.out.keep hb1)
  have g0 := G1.out.cell (j := 0) rfl
  have g1 := G1.out.cell (j := 1) rfl
  have g2 := G1.out.cell (j := 2) rfl
  have gz := G1.out.lt
  clear hb1
  go_wp2_with fail
  refine (C1.out _ B1.out).mono ?_
  rintro e w2 ⟨rfl, hb2⟩
  have B2 := Hid.mk' (bT B1.out hb2)
  have K2 := Hid.mk' (Blk.new w2 27 #[.int .i64 F, .int .i64 T, .bool L, .bool D])
  have U2 := Hid.mk' (bAlloc (Below.refl _ w2) (.cells #[.int .i64 F, .int .i64 T, .bool L, .bool D] 27))
  have G2 := Hid.mk' (G1.out.keep hb2)
  clear g0 g1 g2 gz
  have g0 := G2.out.cell (j := 0) rfl
  have g1 := G2.out.cell (j := 1) rfl
  have g2 := G2.out.cell (j := 2) rfl
  have gz := G2.out.lt
  clear hb2
  go_wp2_with fail
  refine (C2.out _ (bT B2.out U2.out)).mono ?_
  rintro e w3 ⟨rfl, hb3⟩
  have B3 := Hid.mk' (bT (bT B2.out U2.out) hb3)
  have K3 := Hid.mk' (K2.out.keep hb3)
  have a0 := K3.out.cell (j := 0) rfl
  have a1 := K3.out.cell (j := 1) rfl
  have a2 := K3.out.cell (j := 2) rfl
  have a3 := K3.out.cell (j := 3) rfl
  have az := K3.out.lt
  clear hb3 U2 K2
  go_wp2
  go_ret
  exact ⟨rfl, bAlloc B3.out _⟩
set_option maxHeartbeats 2000000 in
theorem extentWhole_walk (ao : Option Addr) (n c : Nat) (f t : Int) (l : List UInt8) (w : World) (hf : f ≤ 9223372036854775807) (ht : t ≤ 9223372036854775807) (HT : Hid (Tx w ao n c l)) :
    Calls Try.prog 4 #[.slice ao n c, .int .i64 f, .int .i64 t] w fun e w' => e = .returned (.bool true) ∧ Below w.heap.size w w' := by
  have C1 := Hid.mk' (fun W (h : Below w.heap.size w W) => rwhole_any ao n c f t l W hf ht (HT.out.keep h))
  have C2 := Hid.mk' (fun W (h : Below w.heap.size w W) => whole_any ao n c f t l W hf ht (HT.out.keep h))
  have HR := Hid.mk' trivial
  generalize wh l f t = R at *
  obtain ⟨F, T, L, D, E⟩ := R
  clear HR
  unfold rt at C1 C2
  dsimp only at C1 C2
  go_enter Try.func4, Try.ntmps4
  go_wp2_with fail
  refine (alive_any _).mono ?_
  rintro e w1 ⟨rfl, hb1⟩
  have B1 := Hid.mk' (bT (Below.refl _ w) hb1)
  clear hb1
  go_wp2_with fail
  refine (C1.out _ B1.out).mono ?_
  rintro e w2 ⟨rfl, hb2⟩
  have B2 := Hid.mk' (bT B1.out hb2)
  have K2 := Hid.mk' (Blk.new w2 27 #[.int .i64 F, .int .i64 T, .bool L, .bool D])
  have U2 := Hid.mk' (bAlloc (Below.refl _ w2) (.cells #[.int .i64 F, .int .i64 T, .bool L, .bool D] 27))
  clear hb2
  go_wp2_with fail
  refine (C2.out _ (bT B2.out U2.out)).mono ?_
  rintro e w3 ⟨rfl, hb3⟩
  have B3 := Hid.mk' (bT (bT B2.out U2.out) hb3)
  have K3 := Hid.mk' (K2.out.keep hb3)
  have a0 := K3.out.cell (j := 0) rfl
  have a1 := K3.out.cell (j := 1) rfl
  have a2 := K3.out.cell (j := 2) rfl
  have a3 := K3.out.cell (j := 3) rfl
  have az := K3.out.lt
  clear hb3 U2 K2
  go_wp2
  go_ret
  exact ⟨rfl, bAlloc B3.out _⟩

end Go.Proofs.Ytbknnicpdkpmiaa
