/- extent.Take of a range, a part. -/
import Derived.Test.YtbknnicpdkpmiaaTk0
import Derived.Test.YtbknnicpdkpmiaaLists
namespace Go.Proofs.Ytbknnicpdkpmiaa
open Go.RowKit

set_option maxRecDepth 8000
set_option maxHeartbeats 4000000 in
theorem take_tt_mid (ao0 : Option Addr) (n c f t : Nat) (l : List UInt8) (w : World) (hft : f ≤ t) (htn : t ≤ n) (hbig : n ≤ 140737488351232) (HT : Hid (Tx w ao0 n c l)) (hlead : leB l (f : Int) = true) (a : Addr) (hao : ao0 = some a) (hce : ¬ c = f + 1) :
    Calls Try.prog 14 #[.slice ao0 n c, .agg #[.int .i64 (f : Int), .int .i64 (t : Int), .bool true, .bool true]] w fun e w' => ∃ v, e = tr true true v 0 ∧ w'.ownsRow w.heap.size 5 1 v (tk l f t true true).length (bv (tk l f t true true)) ∧ Below w.heap.size w w' := by
  obtain ⟨i5, hi5, hz5, hs5, hb5⟩ := info_parts info5
  have hlen := Hid.mk' HT.out.len
  have hcap := HT.out.cap
  have hbn : (n : Int) ≤ 140737488351232 := by omega
  have hft' : (f : Int) ≤ t := by omega
  have htn' : (t : Int) ≤ n := by omega
  obtain ⟨B, hB⟩ : ∃ B, tkb l f t true = B := ⟨_, rfl⟩
  have HTK : Hid (tk l f t true true = B ++ [10]) := by unfold Hid tk; rw [← hB]; rfl
  have hfn : f < n := by
    unfold leB at hlead
    have := of_decide_eq_true (Bool.and_eq_true_iff.1 hlead).1
    have := hlen.out
    omega
  have hfn' : (f : Int) + 1 ≤ n := by omega
  obtain ⟨T, hT⟩ : ∃ T, max (f + 1) t = T := ⟨_, rfl⟩
  have hmx : max ((f : Int) + 1) (t : Int) = (T : Int) := by omega
  have hTn : T ≤ n := by omega
  have hTn' : (T : Int) ≤ n := by omega
  have hfT' : (f : Int) + 1 ≤ T := by omega
  obtain ⟨m, hm⟩ : ∃ m, T - (f + 1) = m := ⟨_, rfl⟩
  have hB2 : B = (l.drop (f + 1)).take m := by
    rw [← hB]; unfold tkb
    rw [show f + true.toNat = f + 1 from rfl]
    congr 1; omega
  have hmI : (T : Int) - ((f : Int) + 1) = (m : Int) := by omega
  have hmn : m ≤ n := by omega
  have HBL : Hid (B.length = m) := by unfold Hid; rw [hB2, List.length_take, List.length_drop, hlen.out]; omega
  subst hao
  have T1 := Hid.mk' ((HT.out.tail (s := f + 1) (by omega)).head (i := m) (by omega))
  rw [← hB2] at T1
  have hcn : m ≤ c - (f + 1) := by omega
  have hmN : T - (f + 1) = m := by omega
  clear hB hB2
  have SR : Hid (Srv (((w.alloc (.cells #[.int .i64 ((f : Int)), .int .i64 ((t : Int)), .bool true, .bool true] 27)).alloc (.cells #[.bool false, .bool false, .slice none 0 0] 38)).drew) (.slice (some (a.add (f + 1))) m (c - (f + 1))) m (bv B)) := (T1.out.keep (bAlloc (bAlloc (Below.refl _ w) (.cells #[.int .i64 ((f : Int)), .int .i64 ((t : Int)), .bool true, .bool true] 27)) (.cells #[.bool false, .bool false, .slice none 0 0] 38)).drew).srv
  have CL := Hid.mk' (isLE_any (some a) n c (f : Int) l _ (HT.out.keep (bAlloc (bAlloc (Below.refl _ w) (.cells #[.int .i64 ((f : Int)), .int .i64 ((t : Int)), .bool true, .bool true] 27)) (.cells #[.bool false, .bool false, .slice none 0 0] 38))))
  rw [hlead] at CL
  go_enter Try.func14, Try.ntmps14
  go_wp2_with (go_at_call 30; refine CL.out.mono ?_; rintro e w' ⟨rfl, hw⟩; have hq := hw.symm; subst hq; clear hw)
  go_region
  all_goals go_wp2_with (at_builtin; refine append_srv rfl (.const (.slice none 0 0)) (.tmp 57) 22 rfl (w.heap.size + 2) 5 i5 (.int .u8 0) 1 1 Try.underlying22 hi5 hz5 hs5 hb5 rfl (by decide) (.slice none 0 0) 0 [] rfl (World.ownsRow_nil _ _ _ _) (.slice (some (a.add (f + 1))) m (c - (f + 1))) m (bv B) rfl SR.out ?q1 (bv_one _) ?q2 ?q3 ?q4 ?_)
  case q1 => rw [bv_length, HBL.out, Nat.mul_one]
  case q2 => unfold maxLen; omega
  case q3 => omega
  case q4 => simp
  intro v1 w2 hown1 hgrow1 _
  have HW1 : Hid (w2.ownsRow (w.heap.size + 2) 5 1 v1 m (bv B)) := by unfold Hid; simpa using hown1
  have L0 : Hid (Below (w.heap.size + 2) ((w.alloc (.cells #[.int .i64 ((f : Int)), .int .i64 ((t : Int)), .bool true, .bool true] 27)).alloc (.cells #[.bool false, .bool false, .slice none 0 0] 38)) w2) := (Below.refl _ _).drew.grown hgrow1 (by simp) (fun k hk => by simp [Value.ownBlock] at hk)
  have L1 : Hid (Below w.heap.size w w2) := (bAlloc (bAlloc (Below.refl _ w) (.cells #[.int .i64 ((f : Int)), .int .i64 ((t : Int)), .bool true, .bool true] 27)) (.cells #[.bool false, .bool false, .slice none 0 0] 38)).trans (L0.out.mono (by omega))
  obtain ⟨ax, cx, ev1⟩ := own_shape HW1.out
  subst ev1
  obtain ⟨k0, k1, k2, k3, z0, z1, z2, y0, y1, y2, hz⟩ := tk_cells L0.out
  clear hown1 hgrow1
  go_wp2_with (at_builtin; refine append_srv rfl (.tmp 72) (.tmp 73) 22 rfl (w.heap.size + 2) 5 i5 (.int .u8 0) 1 1 Try.underlying22 hi5 hz5 hs5 hb5 rfl (by decide) (.slice ax m cx) m (bv B) rfl (HW1.out.alloc _) (.slice (some ⟨w2.heap.size, 0, none⟩) 1 1) 1 [.int .u8 10] rfl (.inr ⟨⟨w2.heap.size, 0, none⟩, 1, rfl, fun j u hj => lit_cells w2 _ 5 j u hj⟩) rfl ?r1 ?r2 ?r3 ?r4 ?_)
  case r1 => intro u hu; simp at hu; subst hu; rfl
  case r2 => unfold maxLen; omega
  case r3 => omega
  case r4 => have := hz; simp; omega
  intro v2 w3 hown2 hgrow2 _
  have HW2 : Hid (w3.ownsRow (w.heap.size + 2) 5 1 v2 (m + 1) (bv (B ++ [10]))) := by unfold Hid; rw [bv_append]; exact hown2
  have L3 : Hid (Below (w.heap.size + 2) ((w.alloc (.cells #[.int .i64 ((f : Int)), .int .i64 ((t : Int)), .bool true, .bool true] 27)).alloc (.cells #[.bool false, .bool false, .slice none 0 0] 38)) w3) := (L0.out.alloc (by omega) _).grown hgrow2 (by simp; omega) (fun k hk => (HW1.out.lt k hk).1)
  have L4 : Hid (Below w.heap.size w w3) := (bAlloc (bAlloc (Below.refl _ w) (.cells #[.int .i64 ((f : Int)), .int .i64 ((t : Int)), .bool true, .bool true] 27)) (.cells #[.bool false, .bool false, .slice none 0 0] 38)).trans (L3.out.mono (by omega))
  obtain ⟨ax2, cx2, ev2⟩ := own_shape HW2.out
  subst ev2
  clear k0 k1 k2 k3 z0 z1 z2 y0 y1 y2 hz
  obtain ⟨k0, k1, k2, k3, z0, z1, z2, y0, y1, y2, hz⟩ := tk_cells L3.out
  clear hown2 hgrow2
  go_wp2
  exact bodyPost_ret (v := .tuple #[.agg #[.bool true, .bool true, .slice ax2 (m + 1) cx2], .int .i64 0]) (by simp [results, Try.results14, go_sem, z0, z1, z2]) rfl ⟨_, rfl, by rw [HTK.out]; have h := own_set3 (b := w.heap.size) HW2.out (x := .bool true) (y := .bool true) (z := .slice ax2 (m + 1) cx2); rw [List.length_append, HBL.out]; exact h, bset3' L4.out _ _ _⟩

end Go.Proofs.Ytbknnicpdkpmiaa
