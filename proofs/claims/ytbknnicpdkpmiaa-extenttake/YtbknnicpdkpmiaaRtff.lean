/- The reference's Take of a range, a part. -/
import Derived.Test.YtbknnicpdkpmiaaTk0
namespace Go.Proofs.Ytbknnicpdkpmiaa
open Go.RowKit

set_option maxRecDepth 8000
set_option maxHeartbeats 4000000 in
theorem rtake_ff (ao : Option Addr) (n c f t : Nat) (l : List UInt8) (w : World) (hft : f ≤ t) (htn : t ≤ n) (hbig : n ≤ 140737488351232) (HT : Hid (Tx w ao n c l)) :
    Calls Try.prog 13 #[.slice ao n c, .agg #[.int .i64 (f : Int), .int .i64 (t : Int), .bool false, .bool false]] w fun e w' => ∃ v, e = tr true false v 0 ∧ w'.ownsRow w.heap.size 5 1 v (tk l f t false false).length (bv (tk l f t false false)) ∧ Below w.heap.size w w' := by
  obtain ⟨i5, hi5, hz5, hs5, hb5⟩ := info_parts info5
  have hlen := Hid.mk' HT.out.len
  have hbn : (n : Int) ≤ 140737488351232 := by omega
  have hft' : (f : Int) ≤ t := by omega
  have htn' : (t : Int) ≤ n := by omega
  have hd1 : decide (t < f) = false := decide_eq_false (by omega)
  have hd2 : decide (n < t) = false := decide_eq_false (by omega)
  have hd3 : ¬ t < f := by omega
  have hd4 : ¬ n < t := by omega
  obtain ⟨B, hB⟩ : ∃ B, tkb l f t false = B := ⟨_, rfl⟩
  have HTK : Hid (tk l f t false false = B) := by unfold Hid tk; rw [← hB]; rfl
  have HB : Hid (B = (l.drop (f)).take (t - (f))) := hB.symm
  clear hB
  go_enter Try.func13, Try.ntmps13
  go_wp2_with fail
  go_loopw [7, 8] (fun u v wr => ∃ k : Nat, v = .int .i64 ((f : Int) + k) ∧ k ≤ t - (f) ∧ wr.ownsRow (w.heap.size + 2) 5 1 u k (bv ((l.drop (f)).take k)) ∧ Below (w.heap.size + 2) ((w.alloc (.cells #[.int .i64 ((f : Int)), .int .i64 ((t : Int)), .bool false, .bool false] 27)).alloc (.cells #[.bool false, .bool false, .slice none 0 0] 38)) wr) (fun _ v _ => n + 1 - (intOf v).toNat)
  case atStart =>
    refine ⟨0, by first | rfl | simp, Nat.zero_le _, ?_, bAlloc' (by simp) _⟩
    have := World.ownsRow_made ((w.alloc (.cells #[.int .i64 ((f : Int)), .int .i64 ((t : Int)), .bool false, .bool false] 27)).alloc (.cells #[.bool false, .bool false, .slice none 0 0] 38)) #[] 0 (base := w.heap.size + 2) (e := 5) (size := 1) (by simp) (Nat.zero_le _) rfl
    simpa [bv] using this
  case round =>
    obtain ⟨k, rfl, hk, hown, hbel⟩ := hrel
    have HW := Hid.mk' hown
    have L0 := Hid.mk' hbel
    have L1 : Hid (Below w.heap.size w wr) := (bAlloc (bAlloc (Below.refl _ w) (.cells #[.int .i64 ((f : Int)), .int .i64 ((t : Int)), .bool false, .bool false] 27)) (.cells #[.bool false, .bool false, .slice none 0 0] 38)).trans (L0.out.mono (by omega))
    obtain ⟨ax, cx, ev⟩ := own_shape HW.out
    subst ev
    obtain ⟨k0, k1, k2, k3, z0, z1, z2, y0, y1, y2, hz⟩ := tk_cells L0.out
    clear hown hbel
    by_cases hlt : f + k < t
    · have T1 := Hid.mk' (HT.out.keep L1.out)
      obtain ⟨g, o, rfl, hc⟩ := T1.out.at (by omega)
      have hcb := hc (f + k) (by omega)
      clear hc
      obtain ⟨q, hq⟩ : ∃ q, f + k = q := ⟨_, rfl⟩
      rw [hq] at hcb
      have hqI : (f : Int) + (k : Int) = (q : Int) := by omega
      rw [hqI]
      have HQ := Hid.mk' hq
      have hqn : (q : Int) < n := by omega
      have hqt : (q : Int) < t := by omega
      have hq0 : (0 : Int) ≤ q := by omega
      have HN : Hid (bv ((l.drop (f)).take k) ++ [Value.int .u8 ((at8 l q).toNat : Int)] = bv ((l.drop (f)).take (k + 1))) := by
        unfold Hid
        have hl : k < (l.drop (f)).length := by rw [List.length_drop, hlen.out]; omega
        rw [List.take_succ_eq_append_getElem hl, bv_append]
        congr 1
        have : (l.drop (f))[k] = at8 l q := by
          rw [List.getElem_drop, ← at8_eq, HQ.out]
        rw [this]; rfl
      clear hq hqI
      go_wp2_with (at_builtin; refine append_srv rfl (.tmp 67) (.tmp 72) 22 rfl (w.heap.size + 2) 5 i5 (.int .u8 0) 1 1 Try.underlying22 hi5 hz5 hs5 hb5 rfl (by decide) (.slice ax k cx) k (bv ((l.drop (f)).take k)) rfl (HW.out.alloc _) (.slice (some ⟨wr.heap.size, 0, none⟩) 1 1) 1 [.int .u8 ((at8 l q).toNat : Int)] rfl (.inr ⟨⟨wr.heap.size, 0, none⟩, 1, rfl, fun j u hj => lit_cells wr _ 5 j u hj⟩) rfl ?r1 ?r2 ?r3 ?r4 ?_)
      case r1 => intro u hu; simp at hu; subst hu; rfl
      case r2 => unfold maxLen; omega
      case r3 => omega
      case r4 => have := hz; simp; omega
      intro v2 w3 hown2 hgrow2 _
      have L3 : Hid (Below (w.heap.size + 2) ((w.alloc (.cells #[.int .i64 ((f : Int)), .int .i64 ((t : Int)), .bool false, .bool false] 27)).alloc (.cells #[.bool false, .bool false, .slice none 0 0] 38)) w3) := (L0.out.alloc (by omega) _).grown hgrow2 (by simp; omega) (fun k hk => (HW.out.lt k hk).1)
      rw [HN.out] at hown2
      have HW2 := Hid.mk' hown2
      clear hown2 hgrow2
      go_wp2
      go_roundw
      case rel => exact ⟨k + 1, by have := HQ.out; go_num, by omega, HW2.out, L3.out⟩
      case measure => have := HQ.out; simp [intOf]; omega
    · obtain rfl : k = t - (f) := by omega
      rw [← HB.out] at HW
      obtain ⟨m, hm⟩ : ∃ m, t - (f) = m := ⟨_, rfl⟩
      rw [hm] at HW ⊢
      have HBL : Hid (B.length = m) := by have := HW.out.1; rw [bv_length] at this; unfold Hid; omega
      have hx : ¬ (f : Int) + (m : Int) < (t : Int) := by omega
      have hmn : m ≤ n := by omega
      have hmI : (m : Int) ≤ 140737488351232 := by omega
      clear hm hk hlt
      go_wp2
      exact bodyPost_ret (v := .tuple #[.agg #[.bool true, .bool false, .slice ax m cx], .int .i64 0]) (by simp [results, Try.results13, go_sem, z0, z1, z2]) rfl ⟨_, rfl, by rw [HTK.out]; have h := own_set3 (b := w.heap.size) HW.out (x := .bool true) (y := .bool false) (z := .slice ax m cx); rw [HBL.out]; exact h, bset3' L1.out _ _ _⟩

end Go.Proofs.Ytbknnicpdkpmiaa
