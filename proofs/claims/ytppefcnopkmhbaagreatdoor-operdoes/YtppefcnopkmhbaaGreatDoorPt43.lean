/- Rttf, Rttt, Rtn, Rta -/
import Derived.Test.YtppefcnopkmhbaaGreatDoorPt10
import Derived.Test.YtppefcnopkmhbaaGreatDoorPt42
import Derived.Test.YtppefcnopkmhbaaGreatDoorPt12
namespace Go.Proofs.YtppefcnopkmhbaaGreatDoor
open Go.RowKit

set_option maxRecDepth 8000
set_option maxHeartbeats 4000000 in
theorem rtake_tf (ao : Option Addr) (n c f t : Nat) (l : List UInt8) (w : World) (hft : f ≤ t) (htn : t ≤ n) (hbig : n ≤ 140737488351232) (HT : Hid (Tx w ao n c l)) :
    Calls Tryz.prog 25 #[.slice ao n c, .agg #[.int .i64 (f : Int), .int .i64 (t : Int), .bool true, .bool false]] w fun e w' => ∃ v, e = tr true true v 0 ∧ w'.ownsRow w.heap.size 5 1 v (tk l f t true false).length (bv (tk l f t true false)) ∧ Below w.heap.size w w' := by
  obtain ⟨i5, hi5, hz5, hs5, hb5⟩ := info_parts info5
  have hlen := Hid.mk' HT.out.len
  have hbn : (n : Int) ≤ 140737488351232 := by omega
  have hft' : (f : Int) ≤ t := by omega
  have htn' : (t : Int) ≤ n := by omega
  have hd1 : decide (t < f) = false := decide_eq_false (by omega)
  have hd2 : decide (n < t) = false := decide_eq_false (by omega)
  have hd3 : ¬ t < f := by omega
  have hd4 : ¬ n < t := by omega
  obtain ⟨B, hB⟩ : ∃ B, tkb l f t false = B := ⟨_, rfl⟩
  have HTN : Hid (lack B = false → tk l f t true false = B) := by
    intro h
    unfold tk
    rw [show (true && false) = false from rfl, hB, h]; rfl
  have HTY : Hid (lack B = true → tk l f t true false = B ++ [10]) := by
    intro h
    unfold tk
    rw [show (true && false) = false from rfl, hB, h]; rfl
  have HB : Hid (B = (l.drop (f)).take (t - (f))) := hB.symm
  clear hB
  go_enter Tryz.func25, Tryz.ntmps25
  go_wp2_with fail
  go_loopw [7, 8] (fun u v wr => ∃ k : Nat, v = .int .i64 ((f : Int) + k) ∧ k ≤ t - (f) ∧ wr.ownsRow (w.heap.size + 2) 5 1 u k (bv ((l.drop (f)).take k)) ∧ Below (w.heap.size + 2) ((w.alloc (.cells #[.int .i64 ((f : Int)), .int .i64 ((t : Int)), .bool true, .bool false] 28)).alloc (.cells #[.bool false, .bool false, .slice none 0 0] 33)) wr) (fun _ v _ => n + 1 - (intOf v).toNat)
  case atStart =>
    refine ⟨0, by first | rfl | simp, Nat.zero_le _, ?_, bAlloc' (by simp) _⟩
    have := World.ownsRow_made ((w.alloc (.cells #[.int .i64 ((f : Int)), .int .i64 ((t : Int)), .bool true, .bool false] 28)).alloc (.cells #[.bool false, .bool false, .slice none 0 0] 33)) #[] 0 (base := w.heap.size + 2) (e := 5) (size := 1) (by simp) (Nat.zero_le _) rfl
    simpa [bv] using this
  case round =>
    obtain ⟨k, rfl, hk, hown, hbel⟩ := hrel
    have HW := Hid.mk' hown
    have L0 := Hid.mk' hbel
    have L1 : Hid (Below w.heap.size w wr) := (bAlloc (bAlloc (Below.refl _ w) (.cells #[.int .i64 ((f : Int)), .int .i64 ((t : Int)), .bool true, .bool false] 28)) (.cells #[.bool false, .bool false, .slice none 0 0] 33)).trans (L0.out.mono (by omega))
    obtain ⟨ax, cx, ev⟩ := own_shape HW.out
    subst ev
    obtain ⟨k0, k1, k2, k3, z0, z1, z2, y0, y1, y2, hz⟩ := tk_cells L0.out
    clear hown hbel
    by_cases hlt : f + k < t
    · have T1 := Hid.mk' (HT.out.keep L1.out)
      obtain ⟨g, o, rfl, hc⟩ := T1.out.at (by omega)
      have hcb := hc (f + k) (by omega)
      clear hc
      obtain ⟨q, hq⟩ : ∃ q, f + k = q := ⟨_, rfl⟩
      rw [hq] at hcb
      have hqI : (f : Int) + (k : Int) = (q : Int) := by omega
      rw [hqI]
      have HQ := Hid.mk' hq
      have hqn : (q : Int) < n := by omega
      have hqt : (q : Int) < t := by omega
      have hq0 : (0 : Int) ≤ q := by omega
      have HN : Hid (bv ((l.drop (f)).take k) ++ [Value.int .u8 ((at8 l q).toNat : Int)] = bv ((l.drop (f)).take (k + 1))) := by
        unfold Hid
        have hl : k < (l.drop (f)).length := by rw [List.length_drop, hlen.out]; omega
        rw [List.take_succ_eq_append_getElem hl, bv_append]
        congr 1
        have : (l.drop (f))[k] = at8 l q := by
          rw [List.getElem_drop, ← at8_eq, HQ.out]
        rw [this]; rfl
      clear hq hqI
      go_wp2_with (at_builtin; refine append_srv rfl (.tmp 67) (.tmp 72) 22 rfl (w.heap.size + 2) 5 i5 (.int .u8 0) 1 1 Tryz.underlying22 hi5 hz5 hs5 hb5 rfl (by decide) (.slice ax k cx) k (bv ((l.drop (f)).take k)) rfl (HW.out.alloc _) (.slice (some ⟨wr.heap.size, 0, none⟩) 1 1) 1 [.int .u8 ((at8 l q).toNat : Int)] rfl (.inr ⟨⟨wr.heap.size, 0, none⟩, 1, rfl, fun j u hj => lit_cells wr _ 5 j u hj⟩) rfl ?r1 ?r2 ?r3 ?r4 ?_)
      case r1 => intro u hu; simp at hu; subst hu; rfl
      case r2 => unfold maxLen; omega
      case r3 => omega
      case r4 => have := hz; simp; omega
      intro v2 w3 hown2 hgrow2 _
      have L3 : Hid (Below (w.heap.size + 2) ((w.alloc (.cells #[.int .i64 ((f : Int)), .int .i64 ((t : Int)), .bool true, .bool false] 28)).alloc (.cells #[.bool false, .bool false, .slice none 0 0] 33)) w3) := (L0.out.alloc (by omega) _).grown hgrow2 (by simp; omega) (fun k hk => (HW.out.lt k hk).1)
      rw [HN.out] at hown2
      have HW2 := Hid.mk' hown2
      clear hown2 hgrow2
      go_wp2
      go_roundw
      case rel => exact ⟨k + 1, by have := HQ.out; go_num, by omega, HW2.out, L3.out⟩
      case measure => have := HQ.out; simp [intOf]; omega
    · obtain rfl : k = t - (f) := by omega
      rw [← HB.out] at HW
      obtain ⟨m, hm⟩ : ∃ m, t - (f) = m := ⟨_, rfl⟩
      rw [hm] at HW ⊢
      have HBL : Hid (B.length = m) := by have := HW.out.1; rw [bv_length] at this; unfold Hid; omega
      have hx : ¬ (f : Int) + (m : Int) < (t : Int) := by omega
      have hmn : m ≤ n := by omega
      have hmI : (m : Int) ≤ 140737488351232 := by omega
      clear hm hk hlt
      rcases Nat.eq_zero_or_pos m with hm0 | hm0
      · subst hm0
        have HTK : Hid (tk l f t true false = B ++ [10]) := HTY.out (by unfold lack; rw [HBL.out]; rfl)
        go_wp2_with (at_builtin; refine append_srv rfl (.tmp 94) (.tmp 95) 22 rfl (w.heap.size + 2) 5 i5 (.int .u8 0) 1 1 Tryz.underlying22 hi5 hz5 hs5 hb5 rfl (by decide) (.slice ax 0 cx) 0 (bv B) rfl (HW.out.alloc _) (.slice (some ⟨wr.heap.size, 0, none⟩) 1 1) 1 [.int .u8 10] rfl (.inr ⟨⟨wr.heap.size, 0, none⟩, 1, rfl, fun j u hj => lit_cells wr _ 5 j u hj⟩) rfl (by intro u hu; simp at hu; subst hu; rfl) (by unfold maxLen; omega) (by omega) (by have := hz; simp; omega) ?_)
        intro v2 w3 hown2 hgrow2 _
        have HW2 : Hid (w3.ownsRow (w.heap.size + 2) 5 1 v2 (0 + 1) (bv (B ++ [10]))) := by unfold Hid; rw [bv_append]; exact hown2
        have L3 : Hid (Below (w.heap.size + 2) ((w.alloc (.cells #[.int .i64 ((f : Int)), .int .i64 ((t : Int)), .bool true, .bool false] 28)).alloc (.cells #[.bool false, .bool false, .slice none 0 0] 33)) w3) := (L0.out.alloc (by omega) _).grown hgrow2 (by simp; omega) (fun k hk => (HW.out.lt k hk).1)
        have L4 : Hid (Below w.heap.size w w3) := (bAlloc (bAlloc (Below.refl _ w) (.cells #[.int .i64 ((f : Int)), .int .i64 ((t : Int)), .bool true, .bool false] 28)) (.cells #[.bool false, .bool false, .slice none 0 0] 33)).trans (L3.out.mono (by omega))
        obtain ⟨ax2, cx2, ev2⟩ := own_shape HW2.out
        subst ev2
        clear k0 k1 k2 k3 z0 z1 z2 y0 y1 y2 hz
        obtain ⟨k0, k1, k2, k3, z0, z1, z2, y0, y1, y2, hz⟩ := tk_cells L3.out
        clear hown2 hgrow2
        go_wp2
        exact bodyPost_ret (v := .tuple #[.agg #[.bool true, .bool true, .slice ax2 (0 + 1) cx2], .int .i64 0]) (by simp [results, Tryz.results25, go_sem, z0, z1, z2]) rfl ⟨_, rfl, by rw [HTK.out]; have h := own_set3 (b := w.heap.size) HW2.out (x := .bool true) (y := .bool true) (z := .slice ax2 (0 + 1) cx2); rw [List.length_append, HBL.out]; exact h, bset3' L4.out _ _ _⟩
      · obtain ⟨p, hmp⟩ : ∃ p, m = p + 1 := ⟨m - 1, by omega⟩
        obtain ⟨g2, cap2, hv2, hc2, _⟩ := own_some HW.out (by omega)
        obtain ⟨rfl, rfl⟩ : ax = some ⟨g2, 0, none⟩ ∧ cap2 = cx := by simp at hv2; exact ⟨hv2.1, hv2.2.symm⟩
        have hcl : wr.cell? ⟨g2, p, none⟩ = some (.int .u8 ((at8 B p).toNat : Int)) := by
          rw [HW.out.cellAt p (by omega)]
          exact bv_at B p (by rw [HBL.out]; omega)
        have hlk : lack B = !le (at8 B p) := by
          unfold lack leB
          rw [HBL.out, decide_eq_true (by omega), Bool.true_and, show (((m : Nat) : Int) - 1).toNat = p from by omega]
        have e2 : (m : Int) - 1 = (p : Int) := by omega
        have e3 : ((m : Int) == 0) = false := by simp; omega
        have e4 : ¬ (m : Int) = 0 := by omega
        have e5 : (0 : Int) ≤ p := by omega
        have e6 : (p : Int) < m := by omega
        have e7 : p < m := by omega
        have e8 : ¬ m = 0 := by omega
        clear hv2 hmp
        cases hq : le (at8 B p) with
        | true =>
          rw [hq] at hlk
          have HTK : Hid (tk l f t true false = B) := HTN.out hlk
          have x10 : (((at8 B p).toNat : Int) == 10) = true := hq
          have xn10 : (((at8 B p).toNat : Int) != 10) = false := by simp only [bne, x10]; rfl
          clear hq hlk
          go_wp2
          exact bodyPost_ret (v := .tuple #[.agg #[.bool true, .bool true, .slice (some ⟨g2, 0, none⟩) m cap2], .int .i64 0]) (by simp [results, Tryz.results25, go_sem, z0, z1, z2]) rfl ⟨_, rfl, by rw [HTK.out]; have h := own_set3 (b := w.heap.size) HW.out (x := .bool true) (y := .bool true) (z := .slice (some ⟨g2, 0, none⟩) m cap2); rw [HBL.out]; exact h, bset3' L1.out _ _ _⟩
        | false =>
          rw [hq] at hlk
          have HTK : Hid (tk l f t true false = B ++ [10]) := HTY.out hlk
          have x10 : (((at8 B p).toNat : Int) == 10) = false := hq
          have xn10 : (((at8 B p).toNat : Int) != 10) = true := by simp only [bne, x10]; rfl
          clear hq hlk
          go_wp2_with (at_builtin; refine append_srv rfl (.tmp 94) (.tmp 95) 22 rfl (w.heap.size + 2) 5 i5 (.int .u8 0) 1 1 Tryz.underlying22 hi5 hz5 hs5 hb5 rfl (by decide) (.slice (some ⟨g2, 0, none⟩) m cap2) m (bv B) rfl (HW.out.alloc _) (.slice (some ⟨wr.heap.size, 0, none⟩) 1 1) 1 [.int .u8 10] rfl (.inr ⟨⟨wr.heap.size, 0, none⟩, 1, rfl, fun j u hj => lit_cells wr _ 5 j u hj⟩) rfl (by intro u hu; simp at hu; subst hu; rfl) (by unfold maxLen; omega) (by omega) (by have := hz; simp; omega) ?_)
          intro v2 w3 hown2 hgrow2 _
          have HW2 : Hid (w3.ownsRow (w.heap.size + 2) 5 1 v2 (m + 1) (bv (B ++ [10]))) := by unfold Hid; rw [bv_append]; exact hown2
          have L3 : Hid (Below (w.heap.size + 2) ((w.alloc (.cells #[.int .i64 ((f : Int)), .int .i64 ((t : Int)), .bool true, .bool false] 28)).alloc (.cells #[.bool false, .bool false, .slice none 0 0] 33)) w3) := (L0.out.alloc (by omega) _).grown hgrow2 (by simp; omega) (fun k hk => (HW.out.lt k hk).1)
          have L4 : Hid (Below w.heap.size w w3) := (bAlloc (bAlloc (Below.refl _ w) (.cells #[.int .i64 ((f : Int)), .int .i64 ((t : Int)), .bool true, .bool false] 28)) (.cells #[.bool false, .bool false, .slice none 0 0] 33)).trans (L3.out.mono (by omega))
          obtain ⟨ax2, cx2, ev2⟩ := own_shape HW2.out
          subst ev2
          clear k0 k1 k2 k3 z0 z1 z2 y0 y1 y2 hz
          obtain ⟨k0, k1, k2, k3, z0, z1, z2, y0, y1, y2, hz⟩ := tk_cells L3.out
          clear hown2 hgrow2
          go_wp2
          exact bodyPost_ret (v := .tuple #[.agg #[.bool true, .bool true, .slice ax2 (m + 1) cx2], .int .i64 0]) (by simp [results, Tryz.results25, go_sem, z0, z1, z2]) rfl ⟨_, rfl, by rw [HTK.out]; have h := own_set3 (b := w.heap.size) HW2.out (x := .bool true) (y := .bool true) (z := .slice ax2 (m + 1) cx2); rw [List.length_append, HBL.out]; exact h, bset3' L4.out _ _ _⟩

end Go.Proofs.YtppefcnopkmhbaaGreatDoor

namespace Go.Proofs.YtppefcnopkmhbaaGreatDoor
open Go.RowKit

set_option maxRecDepth 8000
set_option maxHeartbeats 4000000 in
theorem rtake_tt (ao : Option Addr) (n c f t : Nat) (l : List UInt8) (w : World) (hft : f ≤ t) (htn : t ≤ n) (hbig : n ≤ 140737488351232) (HT : Hid (Tx w ao n c l)) (hlead : leB l (f : Int) = true) :
    Calls Tryz.prog 25 #[.slice ao n c, .agg #[.int .i64 (f : Int), .int .i64 (t : Int), .bool true, .bool true]] w fun e w' => ∃ v, e = tr true true v 0 ∧ w'.ownsRow w.heap.size 5 1 v (tk l f t true true).length (bv (tk l f t true true)) ∧ Below w.heap.size w w' := by
  obtain ⟨i5, hi5, hz5, hs5, hb5⟩ := info_parts info5
  have hlen := Hid.mk' HT.out.len
  have hbn : (n : Int) ≤ 140737488351232 := by omega
  have hft' : (f : Int) ≤ t := by omega
  have htn' : (t : Int) ≤ n := by omega
  have hd1 : decide (t < f) = false := decide_eq_false (by omega)
  have hd2 : decide (n < t) = false := decide_eq_false (by omega)
  have hd3 : ¬ t < f := by omega
  have hd4 : ¬ n < t := by omega
  obtain ⟨B, hB⟩ : ∃ B, tkb l f t true = B := ⟨_, rfl⟩
  have HTK : Hid (tk l f t true true = B ++ [10]) := by unfold Hid tk; rw [← hB]; rfl
  have hfn : f < n := by
    unfold leB at hlead
    have := of_decide_eq_true (Bool.and_eq_true_iff.1 hlead).1
    have := hlen.out
    omega
  have hfn' : (f : Int) + 1 ≤ n := by omega
  have hfl : (f : Int) < n := by omega
  have hne : ((f : Int) == (n : Int)) = false := by simp; omega
  have hne2 : ¬ (f : Int) = (n : Int) := by omega
  have hle : le (at8 l f) = true := by
    unfold leB at hlead
    exact (Bool.and_eq_true_iff.1 hlead).2
  have h10 : (((at8 l f).toNat : Int) == 10) = true := hle
  have hn10 : (((at8 l f).toNat : Int) != 10) = false := by simp only [bne, h10]; rfl
  obtain ⟨g, o, rfl, hc⟩ := HT.out.at (by omega)
  have hc0 := hc f (by omega)
  have hg : g < w.heap.size := lt_of_cell hc0
  have hg1 : ¬ g = w.heap.size := by omega
  have hg2 : ¬ g = w.heap.size + 1 := by omega
  clear hc hle hlead
  have HB : Hid (B = (l.drop (f + 1)).take (t - (f + 1))) := hB.symm
  clear hB
  go_enter Tryz.func25, Tryz.ntmps25
  go_wp2_with fail
  go_loopw [7, 8] (fun u v wr => ∃ k : Nat, v = .int .i64 ((f : Int) + 1 + k) ∧ k ≤ t - (f + 1) ∧ wr.ownsRow (w.heap.size + 2) 5 1 u k (bv ((l.drop (f + 1)).take k)) ∧ Below (w.heap.size + 2) ((w.alloc (.cells #[.int .i64 ((f : Int)), .int .i64 ((t : Int)), .bool true, .bool true] 28)).alloc (.cells #[.bool false, .bool false, .slice none 0 0] 33)) wr) (fun _ v _ => n + 1 - (intOf v).toNat)
  case atStart =>
    refine ⟨0, by first | rfl | simp, Nat.zero_le _, ?_, bAlloc' (by simp) _⟩
    have := World.ownsRow_made ((w.alloc (.cells #[.int .i64 ((f : Int)), .int .i64 ((t : Int)), .bool true, .bool true] 28)).alloc (.cells #[.bool false, .bool false, .slice none 0 0] 33)) #[] 0 (base := w.heap.size + 2) (e := 5) (size := 1) (by simp) (Nat.zero_le _) rfl
    simpa [bv] using this
  case round =>
    obtain ⟨k, rfl, hk, hown, hbel⟩ := hrel
    have HW := Hid.mk' hown
    have L0 := Hid.mk' hbel
    have L1 : Hid (Below w.heap.size w wr) := (bAlloc (bAlloc (Below.refl _ w) (.cells #[.int .i64 ((f : Int)), .int .i64 ((t : Int)), .bool true, .bool true] 28)) (.cells #[.bool false, .bool false, .slice none 0 0] 33)).trans (L0.out.mono (by omega))
    obtain ⟨ax, cx, ev⟩ := own_shape HW.out
    subst ev
    obtain ⟨k0, k1, k2, k3, z0, z1, z2, y0, y1, y2, hz⟩ := tk_cells L0.out
    clear hown hbel
    by_cases hlt : f + 1 + k < t
    · have T1 := Hid.mk' (HT.out.keep L1.out)
      have hcb : wr.cell? ⟨g, o + (f + 1 + k), none⟩ = some (.int .u8 ((at8 l (f + 1 + k)).toNat : Int)) := by have := T1.out.cells _ rfl (f + 1 + k) (by omega); rwa [add_none] at this
      obtain ⟨q, hq⟩ : ∃ q, f + 1 + k = q := ⟨_, rfl⟩
      rw [hq] at hcb
      have hqI : (f : Int) + 1 + (k : Int) = (q : Int) := by omega
      rw [hqI]
      have HQ := Hid.mk' hq
      have hqn : (q : Int) < n := by omega
      have hqt : (q : Int) < t := by omega
      have hq0 : (0 : Int) ≤ q := by omega
      have HN : Hid (bv ((l.drop (f + 1)).take k) ++ [Value.int .u8 ((at8 l q).toNat : Int)] = bv ((l.drop (f + 1)).take (k + 1))) := by
        unfold Hid
        have hl : k < (l.drop (f + 1)).length := by rw [List.length_drop, hlen.out]; omega
        rw [List.take_succ_eq_append_getElem hl, bv_append]
        congr 1
        have : (l.drop (f + 1))[k] = at8 l q := by
          rw [List.getElem_drop, ← at8_eq, HQ.out]
        rw [this]; rfl
      clear hq hqI
      go_wp2_with (at_builtin; refine append_srv rfl (.tmp 67) (.tmp 72) 22 rfl (w.heap.size + 2) 5 i5 (.int .u8 0) 1 1 Tryz.underlying22 hi5 hz5 hs5 hb5 rfl (by decide) (.slice ax k cx) k (bv ((l.drop (f + 1)).take k)) rfl (HW.out.alloc _) (.slice (some ⟨wr.heap.size, 0, none⟩) 1 1) 1 [.int .u8 ((at8 l q).toNat : Int)] rfl (.inr ⟨⟨wr.heap.size, 0, none⟩, 1, rfl, fun j u hj => lit_cells wr _ 5 j u hj⟩) rfl ?r1 ?r2 ?r3 ?r4 ?_)
      case r1 => intro u hu; simp at hu; subst hu; rfl
      case r2 => unfold maxLen; omega
      case r3 => omega
      case r4 => have := hz; simp; omega
      intro v2 w3 hown2 hgrow2 _
      have L3 : Hid (Below (w.heap.size + 2) ((w.alloc (.cells #[.int .i64 ((f : Int)), .int .i64 ((t : Int)), .bool true, .bool true] 28)).alloc (.cells #[.bool false, .bool false, .slice none 0 0] 33)) w3) := (L0.out.alloc (by omega) _).grown hgrow2 (by simp; omega) (fun k hk => (HW.out.lt k hk).1)
      rw [HN.out] at hown2
      have HW2 := Hid.mk' hown2
      clear hown2 hgrow2
      go_wp2
      go_roundw
      case rel => exact ⟨k + 1, by have := HQ.out; go_num, by omega, HW2.out, L3.out⟩
      case measure => have := HQ.out; simp [intOf]; omega
    · obtain rfl : k = t - (f + 1) := by omega
      rw [← HB.out] at HW
      obtain ⟨m, hm⟩ : ∃ m, t - (f + 1) = m := ⟨_, rfl⟩
      rw [hm] at HW ⊢
      have HBL : Hid (B.length = m) := by have := HW.out.1; rw [bv_length] at this; unfold Hid; omega
      have hx : ¬ (f : Int) + 1 + (m : Int) < (t : Int) := by omega
      have hmn : m ≤ n := by omega
      have hmI : (m : Int) ≤ 140737488351232 := by omega
      clear hm hk hlt
      go_wp2_with (at_builtin; refine append_srv rfl (.tmp 94) (.tmp 95) 22 rfl (w.heap.size + 2) 5 i5 (.int .u8 0) 1 1 Tryz.underlying22 hi5 hz5 hs5 hb5 rfl (by decide) (.slice ax m cx) m (bv B) rfl (HW.out.alloc _) (.slice (some ⟨wr.heap.size, 0, none⟩) 1 1) 1 [.int .u8 10] rfl (.inr ⟨⟨wr.heap.size, 0, none⟩, 1, rfl, fun j u hj => lit_cells wr _ 5 j u hj⟩) rfl (by intro u hu; simp at hu; subst hu; rfl) (by unfold maxLen; omega) (by omega) (by have := hz; simp; omega) ?_)
      intro v2 w3 hown2 hgrow2 _
      have HW2 : Hid (w3.ownsRow (w.heap.size + 2) 5 1 v2 (m + 1) (bv (B ++ [10]))) := by unfold Hid; rw [bv_append]; exact hown2
      have L3 : Hid (Below (w.heap.size + 2) ((w.alloc (.cells #[.int .i64 ((f : Int)), .int .i64 ((t : Int)), .bool true, .bool true] 28)).alloc (.cells #[.bool false, .bool false, .slice none 0 0] 33)) w3) := (L0.out.alloc (by omega) _).grown hgrow2 (by simp; omega) (fun k hk => (HW.out.lt k hk).1)
      have L4 : Hid (Below w.heap.size w w3) := (bAlloc (bAlloc (Below.refl _ w) (.cells #[.int .i64 ((f : Int)), .int .i64 ((t : Int)), .bool true, .bool true] 28)) (.cells #[.bool false, .bool false, .slice none 0 0] 33)).trans (L3.out.mono (by omega))
      obtain ⟨ax2, cx2, ev2⟩ := own_shape HW2.out
      subst ev2
      clear k0 k1 k2 k3 z0 z1 z2 y0 y1 y2 hz
      obtain ⟨k0, k1, k2, k3, z0, z1, z2, y0, y1, y2, hz⟩ := tk_cells L3.out
      clear hown2 hgrow2
      go_wp2
      exact bodyPost_ret (v := .tuple #[.agg #[.bool true, .bool true, .slice ax2 (m + 1) cx2], .int .i64 0]) (by simp [results, Tryz.results25, go_sem, z0, z1, z2]) rfl ⟨_, rfl, by rw [HTK.out]; have h := own_set3 (b := w.heap.size) HW2.out (x := .bool true) (y := .bool true) (z := .slice ax2 (m + 1) cx2); rw [List.length_append, HBL.out]; exact h, bset3' L4.out _ _ _⟩

end Go.Proofs.YtppefcnopkmhbaaGreatDoor

namespace Go.Proofs.YtppefcnopkmhbaaGreatDoor
open Go.RowKit

set_option maxRecDepth 8000
end Go.Proofs.YtppefcnopkmhbaaGreatDoor

namespace Go.Proofs.YtppefcnopkmhbaaGreatDoor
open Go.RowKit

theorem rtake_yes (ao : Option Addr) (n c f t : Nat) (L D : Bool) (l : List UInt8) (w : World) (hbig : n ≤ 140737488351232) (h : rgB l (f : Int) (t : Int) L D = true) (HT : Hid (Tx w ao n c l)) :
    Calls Tryz.prog 25 #[.slice ao n c, .agg #[.int .i64 (f : Int), .int .i64 (t : Int), .bool L, .bool D]] w fun e w' => ∃ v, e = tr true L v 0 ∧ w'.ownsRow w.heap.size 5 1 v (tk l f t L D).length (bv (tk l f t L D)) ∧ Below w.heap.size w w' := by
  have hlen := HT.out.len
  unfold rgB at h
  obtain ⟨h1, h2⟩ := Bool.and_eq_true_iff.1 h
  have h1 := of_decide_eq_true h1
  have hft : f ≤ t := by omega
  have htn : t ≤ n := by omega
  cases L <;> cases D
  · exact rtake_ff ao n c f t l w hft htn hbig HT
  · exact rtake_ft ao n c f t l w hft htn hbig HT
  · exact rtake_tf ao n c f t l w hft htn hbig HT
  · exact rtake_tt ao n c f t l w hft htn hbig HT (by simpa using h2)

end Go.Proofs.YtppefcnopkmhbaaGreatDoor
