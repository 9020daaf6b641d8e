/- The contracts of quoinlaw01.same and quoinlaw01.lined: lined answers true for the bytes that a span stands for. -/
import Derived.Test.YtfjfflkdcmpgnaaByte
import Derived.Test.YtfjfflkdcmpgnaaAwake
namespace Go.Proofs.Ytfjfflkdcmpgnaa
open Go.RowKit

theorem lt_of_cell {w : World} {a : Addr} {v : Value} (h : w.cell? a = some v) : a.block < w.heap.size := by
  rcases Nat.lt_or_ge a.block w.heap.size with h' | h'
  · exact h'
  · simp [World.cell?, Array.getElem?_eq_none h'] at h

theorem RdB.keep {w w' : World} {v : Value} {l : List UInt8} (h : RdB w v l) (hb : Below w.heap.size w w') : RdB w' v l := by
  rcases h with h | ⟨g, o, c, rfl, hc⟩
  · exact .inl h
  · refine .inr ⟨g, o, c, rfl, fun j u hu => ?_⟩
    have h1 := hc j u hu
    rw [hb.cell (lt_of_cell h1)]; exact h1

set_option maxHeartbeats 400000 in
theorem same_yes (u v : Value) (l : List UInt8) (w : World) (h1 : Rd w u l) (h2 : Rd w v l) :
    Calls Try.prog 21 #[u, v] w fun e w' => e = .returned (.bool true) ∧ w' = w := by
  have c1 := conv_rd h1
  have c2 := conv_rd h2
  clear h1 h2
  go_enter Try.func21, Try.ntmps21
  go_wp2
  go_ret
  exact ⟨rfl, rfl⟩

set_option maxHeartbeats 1000000 in
theorem lined_any (p : Option Addr) (s : Int) (o l : Nat) (O A : List UInt8) (base : Nat) (ao : Option Addr) (c : Nat) (w : World) (hs : Hid (sndB s o l = true)) (hh : Hid (o + l ≤ (which s O A).length)) (h : Hid (Bf w base p O A)) (hr : Hid (RdB w (.slice ao l c) (cutL s o l O A))) :
    Calls Try.prog 23 #[.pointer p, .agg #[.int .i64 s, .int .i64 o, .int .i64 l], .slice ao l c] w fun e w' => e = .returned (.bool true) ∧ Below w.heap.size w w' := by
  have HC : Hid ((cutL s o l O A).length = l) := cutL_length hh.out
  have hl63 : (l : Int) ≤ 4611686018427387904 := by have := snd_bd hs.out; omega
  have hlo : (o : Int) ≤ 4611686018427387904 := by have := snd_bd hs.out; omega
  have hd : Hid (hdB s o l O A = true) := hd_true hs.out hh.out
  go_enter Try.func23, Try.ntmps23
  go_wp2
  go_loopw [7, 21] (fun k i wr => ∃ j : Nat, j ≤ l ∧ i = .int .i64 j ∧ k = .int .i64 (nl ((cutL s o l O A).take j) : Int) ∧ Below (w.alloc (.cells #[.int .i64 s, .int .i64 (o : Int), .int .i64 (l : Int)] 33)).heap.size (w.alloc (.cells #[.int .i64 s, .int .i64 (o : Int), .int .i64 (l : Int)] 33)) wr) (fun _ i _ => l - (intOf i).toNat)
  case atStart => exact ⟨0, Nat.zero_le _, rfl, rfl, Below.refl _ _⟩
  case round =>
    obtain ⟨j, hj, rfl, rfl, hB⟩ := hrel
    have A1 := (SpanAt.new w s o l).keep hB
    have B1 : Hid (Bf wr base p O A) := (h.out.alloc _).keep hB
    have R1 : Hid (RdB wr (.slice ao l c) (cutL s o l O A)) := (hr.out.keep (bAlloc (Below.refl _ _) _)).keep hB
    have HB : Hid (Below _ _ wr) := hB
    clear hB
    obtain ⟨az, a0, a1, a2, -⟩ := id A1
    by_cases hlt : j < l
    · rcases R1.out with ⟨hv, hn⟩ | ⟨g, off, c', hv, hcell⟩
      · exfalso
        have := HC.out
        rw [hn] at this
        simp at this
        omega
      have hao : ao = some ⟨g, off, none⟩ := by simp at hv; exact hv.1
      subst hao
      have hjC : j < (cutL s o l O A).length := by rw [HC.out]; exact hlt
      have hc0 := hcell j _ (bv_at _ j hjC)
      have hge : at8 (cutL s o l O A) j = (cutL s o l O A)[j] := at8_eq hjC
      have hc : wr.cell? ⟨g, off + j, none⟩ = some (.int .u8 ((at8 (cutL s o l O A) j).toNat : Int)) := by rw [hge]; exact hc0
      have HG : Hid (at8 (cutL s o l O A) j = (cutL s o l O A)[j]) := hge
      have hjl : (j : Int) < (l : Int) := by omega
      have hj0 : (0 : Int) ≤ (j : Int) := by omega
      clear hcell hv hc0 hge R1
      go_wp2_with fail
      refine (byte_yes p s o l j O A base _ hs.out hh.out hlt B1).mono ?_
      rintro e w2 ⟨rfl, hb⟩
      have A2 := A1.keep hb
      have B2 : Hid (Bf w2 base p O A) := B1.out.keep hb
      have HB2 : Hid (Below _ _ w2) := HB.out.trans (hb.mono HB.out.size)
      clear hb az a0 a1 a2 A1 B1 HB hc
      obtain ⟨az, a0, a1, a2, -⟩ := id A2
      have hx : (at8 (cutL s o l O A) j).toNat < 256 := (at8 (cutL s o l O A) j).toNat_lt
      cases h10 : (((at8 (cutL s o l O A) j).toNat : Int) == 10) with
      | false =>
        have HN : Hid (nl ((cutL s o l O A).take (j + 1)) = nl ((cutL s o l O A).take j)) := by
          unfold Hid
          have h1 := nl_take (cutL s o l O A) j hjC
          rw [← HG.out, h10] at h1
          exact h1
        have hne : (((at8 (cutL s o l O A) j).toNat : Int) != 10) = true := by simp only [bne, h10]; rfl
        go_wp2
        go_roundw
        case rel => exact ⟨j + 1, by omega, by go_num, by rw [HN.out], HB2.out⟩
        case measure => simp [intOf]; omega
      | true =>
        have HN : Hid (nl ((cutL s o l O A).take (j + 1)) = nl ((cutL s o l O A).take j) + 1) := by
          unfold Hid
          have h1 := nl_take (cutL s o l O A) j hjC
          rw [← HG.out, h10] at h1
          exact h1
        have HQ : Hid ((((cutL s o l O A)[j].toNat : Int) == 10) = true) := by unfold Hid; rw [← HG.out]; exact h10
        have hne : (((at8 (cutL s o l O A) j).toNat : Int) != 10) = false := by simp only [bne, h10]; rfl
        have hk : nl ((cutL s o l O A).take j) ≤ j := by have h1 := nl_le ((cutL s o l O A).take j); have h2 : ((cutL s o l O A).take j).length ≤ j := List.length_take_le _ _; omega
        go_wp2_with fail
        refine (lineAt_yes p s o l (nl ((cutL s o l O A).take j)) j O A base _ hs.out hh.out (by omega) ⟨hjC, HQ.out, rfl⟩ B2).mono ?_
        rintro e w3 ⟨rfl, hb⟩
        have HB3 : Hid (Below _ _ w3) := HB2.out.trans (hb.mono HB2.out.size)
        clear hb az a0 a1 a2 A2 B2 HB2
        go_wp2
        go_roundw
        case rel => exact ⟨j + 1, by omega, by go_num, by rw [HN.out]; go_num, HB3.out⟩
        case measure => simp [intOf]; omega
    · obtain rfl : j = l := by omega
      have ek : (cutL s o j O A).take j = cutL s o j O A := List.take_of_length_le (by rw [HC.out]; exact Nat.le_refl _)
      have hk : nl (cutL s o j O A) ≤ j := by have h1 := nl_le (cutL s o j O A); rw [HC.out] at h1; exact h1
      clear R1
      go_wp2_with fail
      refine (lines_yes p s o j O A base _ hs.out hh.out B1).mono ?_
      rintro e w2 ⟨rfl, hb⟩
      have A2 := A1.keep hb
      have B2 : Hid (Bf w2 base p O A) := B1.out.keep hb
      have HB2 : Hid (Below _ _ w2) := HB.out.trans (hb.mono HB.out.size)
      clear hb az a0 a1 a2 A1 B1 HB
      obtain ⟨az, a0, a1, a2, -⟩ := id A2
      go_wp2_with fail
      refine (lineAt_high p s o j (nl (cutL s o j O A)) O A base _ hs.out hh.out (by omega) (Nat.le_refl _) B2).mono ?_
      rintro e w3 ⟨rfl, hb⟩
      have A3 := A2.keep hb
      have B3 : Hid (Bf w3 base p O A) := B2.out.keep hb
      have HB3 : Hid (Below _ _ w3) := HB2.out.trans (hb.mono HB2.out.size)
      clear hb az a0 a1 a2 A2 B2 HB2
      obtain ⟨az, a0, a1, a2, -⟩ := id A3
      go_wp2_with fail
      refine (byte_high p s o j j O A base _ (by omega) (by omega) hd.out (by omega) (by omega) B3).mono ?_
      rintro e w4 ⟨rfl, hb⟩
      have HB4 : Hid (Below _ _ w4) := HB3.out.trans (hb.mono HB3.out.size)
      clear hb az a0 a1 a2 A3 B3 HB3
      go_wp2
      go_ret
      exact ⟨rfl, (bAlloc (Below.refl _ _) _).trans (HB4.out.mono (by simp))⟩
end Go.Proofs.Ytfjfflkdcmpgnaa
