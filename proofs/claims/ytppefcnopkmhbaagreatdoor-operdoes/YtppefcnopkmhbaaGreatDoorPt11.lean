/- Tkffe, Tkffm, Tkftn, Tkfte, Tkftm, Tktfn, Tktfe, Tktfm -/
import Derived.Test.YtppefcnopkmhbaaGreatDoorPt10
import Derived.Test.YtppefcnopkmhbaaGreatDoorPt07
namespace Go.Proofs.YtppefcnopkmhbaaGreatDoor
open Go.RowKit

set_option maxRecDepth 8000
set_option maxHeartbeats 4000000 in
theorem take_ff_end (n : Nat) (l : List UInt8) (w : World) (a : Addr) (hbig : n ≤ 140737488351232) (HT : Hid (Tx w (some a) n n l)) :
    Calls Tryz.prog 100 #[.slice (some a) n n, .agg #[.int .i64 (n : Int), .int .i64 (n : Int), .bool false, .bool false]] w fun e w' => ∃ v, e = tr true false v 0 ∧ w'.ownsRow w.heap.size 5 1 v (tk l n n false false).length (bv (tk l n n false false)) ∧ Below w.heap.size w w' := by
  obtain ⟨i5, hi5, hz5, hs5, hb5⟩ := info_parts info5
  have hbn : (n : Int) ≤ 140737488351232 := by omega
  obtain ⟨B, hB⟩ : ∃ B, tkb l n n false = B := ⟨_, rfl⟩
  have HTK : Hid (tk l n n false false = B) := by unfold Hid tk; rw [← hB]; rfl
  have hB0 : B = [] := by rw [← hB]; unfold tkb; rw [show n - (n + false.toNat) = 0 from by simp]; rfl
  have HBL : Hid (B.length = 0) := by unfold Hid; rw [hB0]; rfl
  have HB0 := Hid.mk' hB0
  clear hB0
  clear hB
  have SR : Hid (Srv (((w.alloc (.cells #[.int .i64 ((n : Int)), .int .i64 ((n : Int)), .bool false, .bool false] 28)).alloc (.cells #[.bool false, .bool false, .slice none 0 0] 33)).drew) (.slice (some a) 0 0) 0 (bv B)) := by unfold Hid; rw [HB0.out]; exact .inr ⟨a, 0, rfl, fun j u hj => by simp [bv] at hj⟩
  have CL := Hid.mk' (isLE_any (some a) n n (n : Int) l _ (HT.out.keep (bAlloc (bAlloc (Below.refl _ w) (.cells #[.int .i64 ((n : Int)), .int .i64 ((n : Int)), .bool false, .bool false] 28)) (.cells #[.bool false, .bool false, .slice none 0 0] 33))))
  go_enter Tryz.func100, Tryz.ntmps100
  go_wp2_with (go_at_call 129; refine CL.out.mono ?_; rintro e w' ⟨rfl, hw⟩; have hq := hw.symm; subst hq; clear hw)
  go_region
  all_goals go_wp2_with (at_builtin; refine append_srv rfl (.const (.slice none 0 0)) (.tmp 57) 22 rfl (w.heap.size + 2) 5 i5 (.int .u8 0) 1 1 Tryz.underlying22 hi5 hz5 hs5 hb5 rfl (by decide) (.slice none 0 0) 0 [] rfl (World.ownsRow_nil _ _ _ _) (.slice (some a) 0 0) 0 (bv B) rfl SR.out ?q1 (bv_one _) ?q2 ?q3 ?q4 ?_)
  case q1 => rw [bv_length, HBL.out, Nat.mul_one]
  case q2 => unfold maxLen; omega
  case q3 => omega
  case q4 => simp
  intro v1 w2 hown1 hgrow1 _
  have HW1 : Hid (w2.ownsRow (w.heap.size + 2) 5 1 v1 0 (bv B)) := by unfold Hid; simpa using hown1
  have L0 : Hid (Below (w.heap.size + 2) ((w.alloc (.cells #[.int .i64 ((n : Int)), .int .i64 ((n : Int)), .bool false, .bool false] 28)).alloc (.cells #[.bool false, .bool false, .slice none 0 0] 33)) w2) := (Below.refl _ _).drew.grown hgrow1 (by simp) (fun k hk => by simp [Value.ownBlock] at hk)
  have L1 : Hid (Below w.heap.size w w2) := (bAlloc (bAlloc (Below.refl _ w) (.cells #[.int .i64 ((n : Int)), .int .i64 ((n : Int)), .bool false, .bool false] 28)) (.cells #[.bool false, .bool false, .slice none 0 0] 33)).trans (L0.out.mono (by omega))
  obtain ⟨ax, cx, ev1⟩ := own_shape HW1.out
  subst ev1
  obtain ⟨k0, k1, k2, k3, z0, z1, z2, y0, y1, y2, hz⟩ := tk_cells L0.out
  clear hown1 hgrow1
  go_wp2
  exact bodyPost_ret (v := .tuple #[.agg #[.bool true, .bool false, .slice ax 0 cx], .int .i64 0]) (by simp [results, Tryz.results100, go_sem, z0, z1, z2]) rfl ⟨_, rfl, by rw [HTK.out]; have h := own_set3 (b := w.heap.size) HW1.out (x := .bool true) (y := .bool false) (z := .slice ax 0 cx); rw [HBL.out]; exact h, bset3' L1.out _ _ _⟩

end Go.Proofs.YtppefcnopkmhbaaGreatDoor

namespace Go.Proofs.YtppefcnopkmhbaaGreatDoor
open Go.RowKit

set_option maxRecDepth 8000
set_option maxHeartbeats 4000000 in
theorem take_ff_mid (ao0 : Option Addr) (n c f t : Nat) (l : List UInt8) (w : World) (hft : f ≤ t) (htn : t ≤ n) (hbig : n ≤ 140737488351232) (HT : Hid (Tx w ao0 n c l)) (a : Addr) (hao : ao0 = some a) (hce : ¬ c = f) :
    Calls Tryz.prog 100 #[.slice ao0 n c, .agg #[.int .i64 (f : Int), .int .i64 (t : Int), .bool false, .bool false]] w fun e w' => ∃ v, e = tr true false v 0 ∧ w'.ownsRow w.heap.size 5 1 v (tk l f t false false).length (bv (tk l f t false false)) ∧ Below w.heap.size w w' := by
  obtain ⟨i5, hi5, hz5, hs5, hb5⟩ := info_parts info5
  have hlen := Hid.mk' HT.out.len
  have hcap := HT.out.cap
  have hbn : (n : Int) ≤ 140737488351232 := by omega
  have hft' : (f : Int) ≤ t := by omega
  have htn' : (t : Int) ≤ n := by omega
  obtain ⟨B, hB⟩ : ∃ B, tkb l f t false = B := ⟨_, rfl⟩
  have HTK : Hid (tk l f t false false = B) := by unfold Hid tk; rw [← hB]; rfl
  obtain ⟨m, hm⟩ : ∃ m, t - f = m := ⟨_, rfl⟩
  have hB2 : B = (l.drop f).take m := by
    rw [← hB, ← hm]; rfl
  have hmI : (t : Int) - (f : Int) = (m : Int) := by omega
  have hmn : m ≤ n := by omega
  have HBL : Hid (B.length = m) := by unfold Hid; rw [hB2, List.length_take, List.length_drop, hlen.out]; omega
  subst hao
  have T1 := Hid.mk' ((HT.out.tail (s := f) (by omega)).head (i := m) (by omega))
  rw [← hB2] at T1
  have hcn : m ≤ c - (f) := by omega
  have hmN : t - (f) = m := by omega
  clear hB hB2
  have SR : Hid (Srv (((w.alloc (.cells #[.int .i64 ((f : Int)), .int .i64 ((t : Int)), .bool false, .bool false] 28)).alloc (.cells #[.bool false, .bool false, .slice none 0 0] 33)).drew) (.slice (some (a.add (f))) m (c - (f))) m (bv B)) := (T1.out.keep (bAlloc (bAlloc (Below.refl _ w) (.cells #[.int .i64 ((f : Int)), .int .i64 ((t : Int)), .bool false, .bool false] 28)) (.cells #[.bool false, .bool false, .slice none 0 0] 33)).drew).srv
  have CL := Hid.mk' (isLE_any (some a) n c (f : Int) l _ (HT.out.keep (bAlloc (bAlloc (Below.refl _ w) (.cells #[.int .i64 ((f : Int)), .int .i64 ((t : Int)), .bool false, .bool false] 28)) (.cells #[.bool false, .bool false, .slice none 0 0] 33))))
  go_enter Tryz.func100, Tryz.ntmps100
  go_wp2_with (go_at_call 129; refine CL.out.mono ?_; rintro e w' ⟨rfl, hw⟩; have hq := hw.symm; subst hq; clear hw)
  go_region
  all_goals go_wp2_with (at_builtin; refine append_srv rfl (.const (.slice none 0 0)) (.tmp 57) 22 rfl (w.heap.size + 2) 5 i5 (.int .u8 0) 1 1 Tryz.underlying22 hi5 hz5 hs5 hb5 rfl (by decide) (.slice none 0 0) 0 [] rfl (World.ownsRow_nil _ _ _ _) (.slice (some (a.add (f))) m (c - (f))) m (bv B) rfl SR.out ?q1 (bv_one _) ?q2 ?q3 ?q4 ?_)
  case q1 => rw [bv_length, HBL.out, Nat.mul_one]
  case q2 => unfold maxLen; omega
  case q3 => omega
  case q4 => simp
  intro v1 w2 hown1 hgrow1 _
  have HW1 : Hid (w2.ownsRow (w.heap.size + 2) 5 1 v1 m (bv B)) := by unfold Hid; simpa using hown1
  have L0 : Hid (Below (w.heap.size + 2) ((w.alloc (.cells #[.int .i64 ((f : Int)), .int .i64 ((t : Int)), .bool false, .bool false] 28)).alloc (.cells #[.bool false, .bool false, .slice none 0 0] 33)) w2) := (Below.refl _ _).drew.grown hgrow1 (by simp) (fun k hk => by simp [Value.ownBlock] at hk)
  have L1 : Hid (Below w.heap.size w w2) := (bAlloc (bAlloc (Below.refl _ w) (.cells #[.int .i64 ((f : Int)), .int .i64 ((t : Int)), .bool false, .bool false] 28)) (.cells #[.bool false, .bool false, .slice none 0 0] 33)).trans (L0.out.mono (by omega))
  obtain ⟨ax, cx, ev1⟩ := own_shape HW1.out
  subst ev1
  obtain ⟨k0, k1, k2, k3, z0, z1, z2, y0, y1, y2, hz⟩ := tk_cells L0.out
  clear hown1 hgrow1
  go_wp2
  exact bodyPost_ret (v := .tuple #[.agg #[.bool true, .bool false, .slice ax m cx], .int .i64 0]) (by simp [results, Tryz.results100, go_sem, z0, z1, z2]) rfl ⟨_, rfl, by rw [HTK.out]; have h := own_set3 (b := w.heap.size) HW1.out (x := .bool true) (y := .bool false) (z := .slice ax m cx); rw [HBL.out]; exact h, bset3' L1.out _ _ _⟩

end Go.Proofs.YtppefcnopkmhbaaGreatDoor

namespace Go.Proofs.YtppefcnopkmhbaaGreatDoor
open Go.RowKit

set_option maxRecDepth 8000
set_option maxHeartbeats 4000000 in
theorem take_ft_none (w : World) :
    Calls Tryz.prog 100 #[.slice none 0 0, .agg #[.int .i64 0, .int .i64 0, .bool false, .bool true]] w fun e w' => ∃ v, e = tr true false v 0 ∧ w'.ownsRow w.heap.size 5 1 v (tk [] 0 0 false true).length (bv (tk [] 0 0 false true)) ∧ Below w.heap.size w w' := by
  obtain ⟨i5, hi5, hz5, hs5, hb5⟩ := info_parts info5
  have HT := Hid.mk' (tx_nil w)
  obtain ⟨B, hB0⟩ : ∃ B : List UInt8, B = [] := ⟨_, rfl⟩
  have HTK : Hid (tk [] 0 0 false true = B) := by unfold Hid; rw [hB0]; rfl
  have HBL : Hid (B.length = 0) := by unfold Hid; rw [hB0]; rfl
  have HB0 := Hid.mk' hB0
  clear hB0
  have SR : Hid (Srv (((w.alloc (.cells #[.int .i64 (0), .int .i64 (0), .bool false, .bool true] 28)).alloc (.cells #[.bool false, .bool false, .slice none 0 0] 33)).drew) (.slice none 0 0) 0 (bv B)) := by unfold Hid; rw [HB0.out]; exact .inl ⟨rfl, rfl, rfl⟩
  have CL := Hid.mk' (isLE_any none 0 0 0 [] _ (HT.out.keep (bAlloc (bAlloc (Below.refl _ w) (.cells #[.int .i64 (0), .int .i64 (0), .bool false, .bool true] 28)) (.cells #[.bool false, .bool false, .slice none 0 0] 33))))
  go_enter Tryz.func100, Tryz.ntmps100
  go_wp2_with (go_at_call 129; refine CL.out.mono ?_; rintro e w' ⟨rfl, hw⟩; have hq := hw.symm; subst hq; clear hw)
  go_region
  all_goals go_wp2_with (at_builtin; refine append_srv rfl (.const (.slice none 0 0)) (.tmp 57) 22 rfl (w.heap.size + 2) 5 i5 (.int .u8 0) 1 1 Tryz.underlying22 hi5 hz5 hs5 hb5 rfl (by decide) (.slice none 0 0) 0 [] rfl (World.ownsRow_nil _ _ _ _) (.slice none 0 0) 0 (bv B) rfl SR.out ?q1 (bv_one _) ?q2 ?q3 ?q4 ?_)
  case q1 => rw [bv_length, HBL.out, Nat.mul_one]
  case q2 => unfold maxLen; omega
  case q3 => omega
  case q4 => simp
  intro v1 w2 hown1 hgrow1 _
  have HW1 : Hid (w2.ownsRow (w.heap.size + 2) 5 1 v1 0 (bv B)) := by unfold Hid; simpa using hown1
  have L0 : Hid (Below (w.heap.size + 2) ((w.alloc (.cells #[.int .i64 (0), .int .i64 (0), .bool false, .bool true] 28)).alloc (.cells #[.bool false, .bool false, .slice none 0 0] 33)) w2) := (Below.refl _ _).drew.grown hgrow1 (by simp) (fun k hk => by simp [Value.ownBlock] at hk)
  have L1 : Hid (Below w.heap.size w w2) := (bAlloc (bAlloc (Below.refl _ w) (.cells #[.int .i64 (0), .int .i64 (0), .bool false, .bool true] 28)) (.cells #[.bool false, .bool false, .slice none 0 0] 33)).trans (L0.out.mono (by omega))
  obtain ⟨ax, cx, ev1⟩ := own_shape HW1.out
  subst ev1
  obtain ⟨k0, k1, k2, k3, z0, z1, z2, y0, y1, y2, hz⟩ := tk_cells L0.out
  clear hown1 hgrow1
  go_wp2
  exact bodyPost_ret (v := .tuple #[.agg #[.bool true, .bool false, .slice ax 0 cx], .int .i64 0]) (by simp [results, Tryz.results100, go_sem, z0, z1, z2]) rfl ⟨_, rfl, by rw [HTK.out]; have h := own_set3 (b := w.heap.size) HW1.out (x := .bool true) (y := .bool false) (z := .slice ax 0 cx); rw [HBL.out]; exact h, bset3' L1.out _ _ _⟩

end Go.Proofs.YtppefcnopkmhbaaGreatDoor

namespace Go.Proofs.YtppefcnopkmhbaaGreatDoor
open Go.RowKit

set_option maxRecDepth 8000
set_option maxHeartbeats 4000000 in
theorem take_ft_end (n : Nat) (l : List UInt8) (w : World) (a : Addr) (hbig : n ≤ 140737488351232) (HT : Hid (Tx w (some a) n n l)) :
    Calls Tryz.prog 100 #[.slice (some a) n n, .agg #[.int .i64 (n : Int), .int .i64 (n : Int), .bool false, .bool true]] w fun e w' => ∃ v, e = tr true false v 0 ∧ w'.ownsRow w.heap.size 5 1 v (tk l n n false true).length (bv (tk l n n false true)) ∧ Below w.heap.size w w' := by
  obtain ⟨i5, hi5, hz5, hs5, hb5⟩ := info_parts info5
  have hbn : (n : Int) ≤ 140737488351232 := by omega
  obtain ⟨B, hB⟩ : ∃ B, tkb l n n false = B := ⟨_, rfl⟩
  have HTK : Hid (tk l n n false true = B) := by unfold Hid tk; rw [← hB]; rfl
  have hB0 : B = [] := by rw [← hB]; unfold tkb; rw [show n - (n + false.toNat) = 0 from by simp]; rfl
  have HBL : Hid (B.length = 0) := by unfold Hid; rw [hB0]; rfl
  have HB0 := Hid.mk' hB0
  clear hB0
  clear hB
  have SR : Hid (Srv (((w.alloc (.cells #[.int .i64 ((n : Int)), .int .i64 ((n : Int)), .bool false, .bool true] 28)).alloc (.cells #[.bool false, .bool false, .slice none 0 0] 33)).drew) (.slice (some a) 0 0) 0 (bv B)) := by unfold Hid; rw [HB0.out]; exact .inr ⟨a, 0, rfl, fun j u hj => by simp [bv] at hj⟩
  have CL := Hid.mk' (isLE_any (some a) n n (n : Int) l _ (HT.out.keep (bAlloc (bAlloc (Below.refl _ w) (.cells #[.int .i64 ((n : Int)), .int .i64 ((n : Int)), .bool false, .bool true] 28)) (.cells #[.bool false, .bool false, .slice none 0 0] 33))))
  go_enter Tryz.func100, Tryz.ntmps100
  go_wp2_with (go_at_call 129; refine CL.out.mono ?_; rintro e w' ⟨rfl, hw⟩; have hq := hw.symm; subst hq; clear hw)
  go_region
  all_goals go_wp2_with (at_builtin; refine append_srv rfl (.const (.slice none 0 0)) (.tmp 57) 22 rfl (w.heap.size + 2) 5 i5 (.int .u8 0) 1 1 Tryz.underlying22 hi5 hz5 hs5 hb5 rfl (by decide) (.slice none 0 0) 0 [] rfl (World.ownsRow_nil _ _ _ _) (.slice (some a) 0 0) 0 (bv B) rfl SR.out ?q1 (bv_one _) ?q2 ?q3 ?q4 ?_)
  case q1 => rw [bv_length, HBL.out, Nat.mul_one]
  case q2 => unfold maxLen; omega
  case q3 => omega
  case q4 => simp
  intro v1 w2 hown1 hgrow1 _
  have HW1 : Hid (w2.ownsRow (w.heap.size + 2) 5 1 v1 0 (bv B)) := by unfold Hid; simpa using hown1
  have L0 : Hid (Below (w.heap.size + 2) ((w.alloc (.cells #[.int .i64 ((n : Int)), .int .i64 ((n : Int)), .bool false, .bool true] 28)).alloc (.cells #[.bool false, .bool false, .slice none 0 0] 33)) w2) := (Below.refl _ _).drew.grown hgrow1 (by simp) (fun k hk => by simp [Value.ownBlock] at hk)
  have L1 : Hid (Below w.heap.size w w2) := (bAlloc (bAlloc (Below.refl _ w) (.cells #[.int .i64 ((n : Int)), .int .i64 ((n : Int)), .bool false, .bool true] 28)) (.cells #[.bool false, .bool false, .slice none 0 0] 33)).trans (L0.out.mono (by omega))
  obtain ⟨ax, cx, ev1⟩ := own_shape HW1.out
  subst ev1
  obtain ⟨k0, k1, k2, k3, z0, z1, z2, y0, y1, y2, hz⟩ := tk_cells L0.out
  clear hown1 hgrow1
  go_wp2
  exact bodyPost_ret (v := .tuple #[.agg #[.bool true, .bool false, .slice ax 0 cx], .int .i64 0]) (by simp [results, Tryz.results100, go_sem, z0, z1, z2]) rfl ⟨_, rfl, by rw [HTK.out]; have h := own_set3 (b := w.heap.size) HW1.out (x := .bool true) (y := .bool false) (z := .slice ax 0 cx); rw [HBL.out]; exact h, bset3' L1.out _ _ _⟩

end Go.Proofs.YtppefcnopkmhbaaGreatDoor

namespace Go.Proofs.YtppefcnopkmhbaaGreatDoor
open Go.RowKit

set_option maxRecDepth 8000
set_option maxHeartbeats 4000000 in
theorem take_ft_mid (ao0 : Option Addr) (n c f t : Nat) (l : List UInt8) (w : World) (hft : f ≤ t) (htn : t ≤ n) (hbig : n ≤ 140737488351232) (HT : Hid (Tx w ao0 n c l)) (a : Addr) (hao : ao0 = some a) (hce : ¬ c = f) :
    Calls Tryz.prog 100 #[.slice ao0 n c, .agg #[.int .i64 (f : Int), .int .i64 (t : Int), .bool false, .bool true]] w fun e w' => ∃ v, e = tr true false v 0 ∧ w'.ownsRow w.heap.size 5 1 v (tk l f t false true).length (bv (tk l f t false true)) ∧ Below w.heap.size w w' := by
  obtain ⟨i5, hi5, hz5, hs5, hb5⟩ := info_parts info5
  have hlen := Hid.mk' HT.out.len
  have hcap := HT.out.cap
  have hbn : (n : Int) ≤ 140737488351232 := by omega
  have hft' : (f : Int) ≤ t := by omega
  have htn' : (t : Int) ≤ n := by omega
  obtain ⟨B, hB⟩ : ∃ B, tkb l f t false = B := ⟨_, rfl⟩
  have HTK : Hid (tk l f t false true = B) := by unfold Hid tk; rw [← hB]; rfl
  obtain ⟨m, hm⟩ : ∃ m, t - f = m := ⟨_, rfl⟩
  have hB2 : B = (l.drop f).take m := by
    rw [← hB, ← hm]; rfl
  have hmI : (t : Int) - (f : Int) = (m : Int) := by omega
  have hmn : m ≤ n := by omega
  have HBL : Hid (B.length = m) := by unfold Hid; rw [hB2, List.length_take, List.length_drop, hlen.out]; omega
  subst hao
  have T1 := Hid.mk' ((HT.out.tail (s := f) (by omega)).head (i := m) (by omega))
  rw [← hB2] at T1
  have hcn : m ≤ c - (f) := by omega
  have hmN : t - (f) = m := by omega
  clear hB hB2
  have SR : Hid (Srv (((w.alloc (.cells #[.int .i64 ((f : Int)), .int .i64 ((t : Int)), .bool false, .bool true] 28)).alloc (.cells #[.bool false, .bool false, .slice none 0 0] 33)).drew) (.slice (some (a.add (f))) m (c - (f))) m (bv B)) := (T1.out.keep (bAlloc (bAlloc (Below.refl _ w) (.cells #[.int .i64 ((f : Int)), .int .i64 ((t : Int)), .bool false, .bool true] 28)) (.cells #[.bool false, .bool false, .slice none 0 0] 33)).drew).srv
  have CL := Hid.mk' (isLE_any (some a) n c (f : Int) l _ (HT.out.keep (bAlloc (bAlloc (Below.refl _ w) (.cells #[.int .i64 ((f : Int)), .int .i64 ((t : Int)), .bool false, .bool true] 28)) (.cells #[.bool false, .bool false, .slice none 0 0] 33))))
  go_enter Tryz.func100, Tryz.ntmps100
  go_wp2_with (go_at_call 129; refine CL.out.mono ?_; rintro e w' ⟨rfl, hw⟩; have hq := hw.symm; subst hq; clear hw)
  go_region
  all_goals go_wp2_with (at_builtin; refine append_srv rfl (.const (.slice none 0 0)) (.tmp 57) 22 rfl (w.heap.size + 2) 5 i5 (.int .u8 0) 1 1 Tryz.underlying22 hi5 hz5 hs5 hb5 rfl (by decide) (.slice none 0 0) 0 [] rfl (World.ownsRow_nil _ _ _ _) (.slice (some (a.add (f))) m (c - (f))) m (bv B) rfl SR.out ?q1 (bv_one _) ?q2 ?q3 ?q4 ?_)
  case q1 => rw [bv_length, HBL.out, Nat.mul_one]
  case q2 => unfold maxLen; omega
  case q3 => omega
  case q4 => simp
  intro v1 w2 hown1 hgrow1 _
  have HW1 : Hid (w2.ownsRow (w.heap.size + 2) 5 1 v1 m (bv B)) := by unfold Hid; simpa using hown1
  have L0 : Hid (Below (w.heap.size + 2) ((w.alloc (.cells #[.int .i64 ((f : Int)), .int .i64 ((t : Int)), .bool false, .bool true] 28)).alloc (.cells #[.bool false, .bool false, .slice none 0 0] 33)) w2) := (Below.refl _ _).drew.grown hgrow1 (by simp) (fun k hk => by simp [Value.ownBlock] at hk)
  have L1 : Hid (Below w.heap.size w w2) := (bAlloc (bAlloc (Below.refl _ w) (.cells #[.int .i64 ((f : Int)), .int .i64 ((t : Int)), .bool false, .bool true] 28)) (.cells #[.bool false, .bool false, .slice none 0 0] 33)).trans (L0.out.mono (by omega))
  obtain ⟨ax, cx, ev1⟩ := own_shape HW1.out
  subst ev1
  obtain ⟨k0, k1, k2, k3, z0, z1, z2, y0, y1, y2, hz⟩ := tk_cells L0.out
  clear hown1 hgrow1
  go_wp2
  exact bodyPost_ret (v := .tuple #[.agg #[.bool true, .bool false, .slice ax m cx], .int .i64 0]) (by simp [results, Tryz.results100, go_sem, z0, z1, z2]) rfl ⟨_, rfl, by rw [HTK.out]; have h := own_set3 (b := w.heap.size) HW1.out (x := .bool true) (y := .bool false) (z := .slice ax m cx); rw [HBL.out]; exact h, bset3' L1.out _ _ _⟩

end Go.Proofs.YtppefcnopkmhbaaGreatDoor

namespace Go.Proofs.YtppefcnopkmhbaaGreatDoor
open Go.RowKit

set_option maxRecDepth 8000
set_option maxHeartbeats 4000000 in
theorem take_tf_none (w : World) :
    Calls Tryz.prog 100 #[.slice none 0 0, .agg #[.int .i64 0, .int .i64 0, .bool true, .bool false]] w fun e w' => ∃ v, e = tr true true v 0 ∧ w'.ownsRow w.heap.size 5 1 v (tk [] 0 0 true false).length (bv (tk [] 0 0 true false)) ∧ Below w.heap.size w w' := by
  obtain ⟨i5, hi5, hz5, hs5, hb5⟩ := info_parts info5
  have HT := Hid.mk' (tx_nil w)
  obtain ⟨B, hB0⟩ : ∃ B : List UInt8, B = [] := ⟨_, rfl⟩
  have HTN : Hid (lack B = false → tk [] 0 0 true false = B) := by
    intro h; rw [hB0] at h; cases h
  have HTY : Hid (lack B = true → tk [] 0 0 true false = B ++ [10]) := by
    intro h; rw [hB0]; rfl
  have HBL : Hid (B.length = 0) := by unfold Hid; rw [hB0]; rfl
  have HB0 := Hid.mk' hB0
  clear hB0
  have SR : Hid (Srv (((w.alloc (.cells #[.int .i64 (0), .int .i64 (0), .bool true, .bool false] 28)).alloc (.cells #[.bool false, .bool false, .slice none 0 0] 33)).drew) (.slice none 0 0) 0 (bv B)) := by unfold Hid; rw [HB0.out]; exact .inl ⟨rfl, rfl, rfl⟩
  have CL := Hid.mk' (isLE_any none 0 0 0 [] _ (HT.out.keep (bAlloc (bAlloc (Below.refl _ w) (.cells #[.int .i64 (0), .int .i64 (0), .bool true, .bool false] 28)) (.cells #[.bool false, .bool false, .slice none 0 0] 33))))
  go_enter Tryz.func100, Tryz.ntmps100
  go_wp2_with (go_at_call 129; refine CL.out.mono ?_; rintro e w' ⟨rfl, hw⟩; have hq := hw.symm; subst hq; clear hw)
  go_region
  all_goals go_wp2_with (at_builtin; refine append_srv rfl (.const (.slice none 0 0)) (.tmp 57) 22 rfl (w.heap.size + 2) 5 i5 (.int .u8 0) 1 1 Tryz.underlying22 hi5 hz5 hs5 hb5 rfl (by decide) (.slice none 0 0) 0 [] rfl (World.ownsRow_nil _ _ _ _) (.slice none 0 0) 0 (bv B) rfl SR.out ?q1 (bv_one _) ?q2 ?q3 ?q4 ?_)
  case q1 => rw [bv_length, HBL.out, Nat.mul_one]
  case q2 => unfold maxLen; omega
  case q3 => omega
  case q4 => simp
  intro v1 w2 hown1 hgrow1 _
  have HW1 : Hid (w2.ownsRow (w.heap.size + 2) 5 1 v1 0 (bv B)) := by unfold Hid; simpa using hown1
  have L0 : Hid (Below (w.heap.size + 2) ((w.alloc (.cells #[.int .i64 (0), .int .i64 (0), .bool true, .bool false] 28)).alloc (.cells #[.bool false, .bool false, .slice none 0 0] 33)) w2) := (Below.refl _ _).drew.grown hgrow1 (by simp) (fun k hk => by simp [Value.ownBlock] at hk)
  have L1 : Hid (Below w.heap.size w w2) := (bAlloc (bAlloc (Below.refl _ w) (.cells #[.int .i64 (0), .int .i64 (0), .bool true, .bool false] 28)) (.cells #[.bool false, .bool false, .slice none 0 0] 33)).trans (L0.out.mono (by omega))
  obtain ⟨ax, cx, ev1⟩ := own_shape HW1.out
  subst ev1
  obtain ⟨k0, k1, k2, k3, z0, z1, z2, y0, y1, y2, hz⟩ := tk_cells L0.out
  clear hown1 hgrow1
  obtain ⟨ao2, c2, e2, T2⟩ := own_txl HW1.out (by omega)
  obtain ⟨g1, g2⟩ : ax = ao2 ∧ cx = c2 := by simpa using e2
  subst g1 g2
  have CB := Hid.mk' (isLE_any _ 0 _ (-1) B w2 T2)
  have hlk : lack B = !leB B (-1) := by unfold lack; rw [HBL.out]; try rfl
  clear e2
  cases hq : leB B (-1) with
  | true =>
    rw [hq] at CB hlk
    have HTK : Hid (tk [] 0 0 true false = B) := HTN.out hlk
    clear hq hlk
    go_wp2_with (go_at_call 129; refine CB.out.mono ?_; rintro e w' ⟨rfl, hw⟩; have hq := hw.symm; subst hq; clear hw)
    exact bodyPost_ret (v := .tuple #[.agg #[.bool true, .bool true, .slice ax 0 cx], .int .i64 0]) (by simp [results, Tryz.results100, go_sem, z0, z1, z2]) rfl ⟨_, rfl, by rw [HTK.out]; have h := own_set3 (b := w.heap.size) HW1.out (x := .bool true) (y := .bool true) (z := .slice ax 0 cx); rw [HBL.out]; exact h, bset3' L1.out _ _ _⟩
  | false =>
    rw [hq] at CB hlk
    have HTK : Hid (tk [] 0 0 true false = B ++ [10]) := HTY.out hlk
    clear hq hlk
    go_wp2_with (first | (go_at_call 129; refine CB.out.mono ?_; rintro e w' ⟨rfl, hw⟩; have hq := hw.symm; subst hq; clear hw) | (at_builtin; refine append_srv rfl (.tmp 72) (.tmp 73) 22 rfl (w.heap.size + 2) 5 i5 (.int .u8 0) 1 1 Tryz.underlying22 hi5 hz5 hs5 hb5 rfl (by decide) (.slice ax 0 cx) 0 (bv B) rfl (HW1.out.alloc _) (.slice (some ⟨w2.heap.size, 0, none⟩) 1 1) 1 [.int .u8 10] rfl (.inr ⟨⟨w2.heap.size, 0, none⟩, 1, rfl, fun j u hj => lit_cells w2 _ 5 j u hj⟩) rfl ?r1 ?r2 ?r3 ?r4 ?_))
    case r1 => intro u hu; simp at hu; subst hu; rfl
    case r2 => unfold maxLen; omega
    case r3 => omega
    case r4 => have := hz; simp; omega
    intro v2 w3 hown2 hgrow2 _
    have HW2 : Hid (w3.ownsRow (w.heap.size + 2) 5 1 v2 (0 + 1) (bv (B ++ [10]))) := by unfold Hid; rw [bv_append]; exact hown2
    have L3 : Hid (Below (w.heap.size + 2) ((w.alloc (.cells #[.int .i64 (0), .int .i64 (0), .bool true, .bool false] 28)).alloc (.cells #[.bool false, .bool false, .slice none 0 0] 33)) w3) := (L0.out.alloc (by omega) _).grown hgrow2 (by simp; omega) (fun k hk => (HW1.out.lt k hk).1)
    have L4 : Hid (Below w.heap.size w w3) := (bAlloc (bAlloc (Below.refl _ w) (.cells #[.int .i64 (0), .int .i64 (0), .bool true, .bool false] 28)) (.cells #[.bool false, .bool false, .slice none 0 0] 33)).trans (L3.out.mono (by omega))
    obtain ⟨ax2, cx2, ev2⟩ := own_shape HW2.out
    subst ev2
    clear k0 k1 k2 k3 z0 z1 z2 y0 y1 y2 hz
    obtain ⟨k0, k1, k2, k3, z0, z1, z2, y0, y1, y2, hz⟩ := tk_cells L3.out
    clear hown2 hgrow2
    go_wp2
    exact bodyPost_ret (v := .tuple #[.agg #[.bool true, .bool true, .slice ax2 (0 + 1) cx2], .int .i64 0]) (by simp [results, Tryz.results100, go_sem, z0, z1, z2]) rfl ⟨_, rfl, by rw [HTK.out]; have h := own_set3 (b := w.heap.size) HW2.out (x := .bool true) (y := .bool true) (z := .slice ax2 (0 + 1) cx2); rw [List.length_append, HBL.out]; exact h, bset3' L4.out _ _ _⟩

end Go.Proofs.YtppefcnopkmhbaaGreatDoor

namespace Go.Proofs.YtppefcnopkmhbaaGreatDoor
open Go.RowKit

set_option maxRecDepth 8000
set_option maxHeartbeats 4000000 in
theorem take_tf_end (n : Nat) (l : List UInt8) (w : World) (a : Addr) (hbig : n ≤ 140737488351232) (HT : Hid (Tx w (some a) n n l)) :
    Calls Tryz.prog 100 #[.slice (some a) n n, .agg #[.int .i64 (n : Int), .int .i64 (n : Int), .bool true, .bool false]] w fun e w' => ∃ v, e = tr true true v 0 ∧ w'.ownsRow w.heap.size 5 1 v (tk l n n true false).length (bv (tk l n n true false)) ∧ Below w.heap.size w w' := by
  obtain ⟨i5, hi5, hz5, hs5, hb5⟩ := info_parts info5
  have hbn : (n : Int) ≤ 140737488351232 := by omega
  obtain ⟨B, hB⟩ : ∃ B, tkb l n n false = B := ⟨_, rfl⟩
  have HTN : Hid (lack B = false → tk l n n true false = B) := by
    intro h
    unfold tk
    rw [show (true && false) = false from rfl, hB, h]; rfl
  have HTY : Hid (lack B = true → tk l n n true false = B ++ [10]) := by
    intro h
    unfold tk
    rw [show (true && false) = false from rfl, hB, h]; rfl
  have hB0 : B = [] := by rw [← hB]; unfold tkb; rw [show n - (n + false.toNat) = 0 from by simp]; rfl
  have HBL : Hid (B.length = 0) := by unfold Hid; rw [hB0]; rfl
  have HB0 := Hid.mk' hB0
  clear hB0
  clear hB
  have SR : Hid (Srv (((w.alloc (.cells #[.int .i64 ((n : Int)), .int .i64 ((n : Int)), .bool true, .bool false] 28)).alloc (.cells #[.bool false, .bool false, .slice none 0 0] 33)).drew) (.slice (some a) 0 0) 0 (bv B)) := by unfold Hid; rw [HB0.out]; exact .inr ⟨a, 0, rfl, fun j u hj => by simp [bv] at hj⟩
  have CL := Hid.mk' (isLE_any (some a) n n (n : Int) l _ (HT.out.keep (bAlloc (bAlloc (Below.refl _ w) (.cells #[.int .i64 ((n : Int)), .int .i64 ((n : Int)), .bool true, .bool false] 28)) (.cells #[.bool false, .bool false, .slice none 0 0] 33))))
  go_enter Tryz.func100, Tryz.ntmps100
  go_wp2_with (go_at_call 129; refine CL.out.mono ?_; rintro e w' ⟨rfl, hw⟩; have hq := hw.symm; subst hq; clear hw)
  go_region
  all_goals go_wp2_with (at_builtin; refine append_srv rfl (.const (.slice none 0 0)) (.tmp 57) 22 rfl (w.heap.size + 2) 5 i5 (.int .u8 0) 1 1 Tryz.underlying22 hi5 hz5 hs5 hb5 rfl (by decide) (.slice none 0 0) 0 [] rfl (World.ownsRow_nil _ _ _ _) (.slice (some a) 0 0) 0 (bv B) rfl SR.out ?q1 (bv_one _) ?q2 ?q3 ?q4 ?_)
  case q1 => rw [bv_length, HBL.out, Nat.mul_one]
  case q2 => unfold maxLen; omega
  case q3 => omega
  case q4 => simp
  intro v1 w2 hown1 hgrow1 _
  have HW1 : Hid (w2.ownsRow (w.heap.size + 2) 5 1 v1 0 (bv B)) := by unfold Hid; simpa using hown1
  have L0 : Hid (Below (w.heap.size + 2) ((w.alloc (.cells #[.int .i64 ((n : Int)), .int .i64 ((n : Int)), .bool true, .bool false] 28)).alloc (.cells #[.bool false, .bool false, .slice none 0 0] 33)) w2) := (Below.refl _ _).drew.grown hgrow1 (by simp) (fun k hk => by simp [Value.ownBlock] at hk)
  have L1 : Hid (Below w.heap.size w w2) := (bAlloc (bAlloc (Below.refl _ w) (.cells #[.int .i64 ((n : Int)), .int .i64 ((n : Int)), .bool true, .bool false] 28)) (.cells #[.bool false, .bool false, .slice none 0 0] 33)).trans (L0.out.mono (by omega))
  obtain ⟨ax, cx, ev1⟩ := own_shape HW1.out
  subst ev1
  obtain ⟨k0, k1, k2, k3, z0, z1, z2, y0, y1, y2, hz⟩ := tk_cells L0.out
  clear hown1 hgrow1
  obtain ⟨ao2, c2, e2, T2⟩ := own_txl HW1.out (by omega)
  obtain ⟨g1, g2⟩ : ax = ao2 ∧ cx = c2 := by simpa using e2
  subst g1 g2
  have CB := Hid.mk' (isLE_any _ 0 _ (-1) B w2 T2)
  have hlk : lack B = !leB B (-1) := by unfold lack; rw [HBL.out]; try rfl
  clear e2
  cases hq : leB B (-1) with
  | true =>
    rw [hq] at CB hlk
    have HTK : Hid (tk l n n true false = B) := HTN.out hlk
    clear hq hlk
    go_wp2_with (go_at_call 129; refine CB.out.mono ?_; rintro e w' ⟨rfl, hw⟩; have hq := hw.symm; subst hq; clear hw)
    exact bodyPost_ret (v := .tuple #[.agg #[.bool true, .bool true, .slice ax 0 cx], .int .i64 0]) (by simp [results, Tryz.results100, go_sem, z0, z1, z2]) rfl ⟨_, rfl, by rw [HTK.out]; have h := own_set3 (b := w.heap.size) HW1.out (x := .bool true) (y := .bool true) (z := .slice ax 0 cx); rw [HBL.out]; exact h, bset3' L1.out _ _ _⟩
  | false =>
    rw [hq] at CB hlk
    have HTK : Hid (tk l n n true false = B ++ [10]) := HTY.out hlk
    clear hq hlk
    go_wp2_with (first | (go_at_call 129; refine CB.out.mono ?_; rintro e w' ⟨rfl, hw⟩; have hq := hw.symm; subst hq; clear hw) | (at_builtin; refine append_srv rfl (.tmp 72) (.tmp 73) 22 rfl (w.heap.size + 2) 5 i5 (.int .u8 0) 1 1 Tryz.underlying22 hi5 hz5 hs5 hb5 rfl (by decide) (.slice ax 0 cx) 0 (bv B) rfl (HW1.out.alloc _) (.slice (some ⟨w2.heap.size, 0, none⟩) 1 1) 1 [.int .u8 10] rfl (.inr ⟨⟨w2.heap.size, 0, none⟩, 1, rfl, fun j u hj => lit_cells w2 _ 5 j u hj⟩) rfl ?r1 ?r2 ?r3 ?r4 ?_))
    case r1 => intro u hu; simp at hu; subst hu; rfl
    case r2 => unfold maxLen; omega
    case r3 => omega
    case r4 => have := hz; simp; omega
    intro v2 w3 hown2 hgrow2 _
    have HW2 : Hid (w3.ownsRow (w.heap.size + 2) 5 1 v2 (0 + 1) (bv (B ++ [10]))) := by unfold Hid; rw [bv_append]; exact hown2
    have L3 : Hid (Below (w.heap.size + 2) ((w.alloc (.cells #[.int .i64 ((n : Int)), .int .i64 ((n : Int)), .bool true, .bool false] 28)).alloc (.cells #[.bool false, .bool false, .slice none 0 0] 33)) w3) := (L0.out.alloc (by omega) _).grown hgrow2 (by simp; omega) (fun k hk => (HW1.out.lt k hk).1)
    have L4 : Hid (Below w.heap.size w w3) := (bAlloc (bAlloc (Below.refl _ w) (.cells #[.int .i64 ((n : Int)), .int .i64 ((n : Int)), .bool true, .bool false] 28)) (.cells #[.bool false, .bool false, .slice none 0 0] 33)).trans (L3.out.mono (by omega))
    obtain ⟨ax2, cx2, ev2⟩ := own_shape HW2.out
    subst ev2
    clear k0 k1 k2 k3 z0 z1 z2 y0 y1 y2 hz
    obtain ⟨k0, k1, k2, k3, z0, z1, z2, y0, y1, y2, hz⟩ := tk_cells L3.out
    clear hown2 hgrow2
    go_wp2
    exact bodyPost_ret (v := .tuple #[.agg #[.bool true, .bool true, .slice ax2 (0 + 1) cx2], .int .i64 0]) (by simp [results, Tryz.results100, go_sem, z0, z1, z2]) rfl ⟨_, rfl, by rw [HTK.out]; have h := own_set3 (b := w.heap.size) HW2.out (x := .bool true) (y := .bool true) (z := .slice ax2 (0 + 1) cx2); rw [List.length_append, HBL.out]; exact h, bset3' L4.out _ _ _⟩

end Go.Proofs.YtppefcnopkmhbaaGreatDoor

namespace Go.Proofs.YtppefcnopkmhbaaGreatDoor
open Go.RowKit

set_option maxRecDepth 8000
set_option maxHeartbeats 4000000 in
theorem take_tf_mid (ao0 : Option Addr) (n c f t : Nat) (l : List UInt8) (w : World) (hft : f ≤ t) (htn : t ≤ n) (hbig : n ≤ 140737488351232) (HT : Hid (Tx w ao0 n c l)) (a : Addr) (hao : ao0 = some a) (hce : ¬ c = f) :
    Calls Tryz.prog 100 #[.slice ao0 n c, .agg #[.int .i64 (f : Int), .int .i64 (t : Int), .bool true, .bool false]] w fun e w' => ∃ v, e = tr true true v 0 ∧ w'.ownsRow w.heap.size 5 1 v (tk l f t true false).length (bv (tk l f t true false)) ∧ Below w.heap.size w w' := by
  obtain ⟨i5, hi5, hz5, hs5, hb5⟩ := info_parts info5
  have hlen := Hid.mk' HT.out.len
  have hcap := HT.out.cap
  have hbn : (n : Int) ≤ 140737488351232 := by omega
  have hft' : (f : Int) ≤ t := by omega
  have htn' : (t : Int) ≤ n := by omega
  obtain ⟨B, hB⟩ : ∃ B, tkb l f t false = B := ⟨_, rfl⟩
  have HTN : Hid (lack B = false → tk l f t true false = B) := by
    intro h
    unfold tk
    rw [show (true && false) = false from rfl, hB, h]; rfl
  have HTY : Hid (lack B = true → tk l f t true false = B ++ [10]) := by
    intro h
    unfold tk
    rw [show (true && false) = false from rfl, hB, h]; rfl
  obtain ⟨m, hm⟩ : ∃ m, t - f = m := ⟨_, rfl⟩
  have hB2 : B = (l.drop f).take m := by
    rw [← hB, ← hm]; rfl
  have hmI : (t : Int) - (f : Int) = (m : Int) := by omega
  have hmn : m ≤ n := by omega
  have HBL : Hid (B.length = m) := by unfold Hid; rw [hB2, List.length_take, List.length_drop, hlen.out]; omega
  subst hao
  have T1 := Hid.mk' ((HT.out.tail (s := f) (by omega)).head (i := m) (by omega))
  rw [← hB2] at T1
  have hcn : m ≤ c - (f) := by omega
  have hmN : t - (f) = m := by omega
  clear hB hB2
  have SR : Hid (Srv (((w.alloc (.cells #[.int .i64 ((f : Int)), .int .i64 ((t : Int)), .bool true, .bool false] 28)).alloc (.cells #[.bool false, .bool false, .slice none 0 0] 33)).drew) (.slice (some (a.add (f))) m (c - (f))) m (bv B)) := (T1.out.keep (bAlloc (bAlloc (Below.refl _ w) (.cells #[.int .i64 ((f : Int)), .int .i64 ((t : Int)), .bool true, .bool false] 28)) (.cells #[.bool false, .bool false, .slice none 0 0] 33)).drew).srv
  have CL := Hid.mk' (isLE_any (some a) n c (f : Int) l _ (HT.out.keep (bAlloc (bAlloc (Below.refl _ w) (.cells #[.int .i64 ((f : Int)), .int .i64 ((t : Int)), .bool true, .bool false] 28)) (.cells #[.bool false, .bool false, .slice none 0 0] 33))))
  go_enter Tryz.func100, Tryz.ntmps100
  go_wp2_with (go_at_call 129; refine CL.out.mono ?_; rintro e w' ⟨rfl, hw⟩; have hq := hw.symm; subst hq; clear hw)
  go_region
  all_goals go_wp2_with (at_builtin; refine append_srv rfl (.const (.slice none 0 0)) (.tmp 57) 22 rfl (w.heap.size + 2) 5 i5 (.int .u8 0) 1 1 Tryz.underlying22 hi5 hz5 hs5 hb5 rfl (by decide) (.slice none 0 0) 0 [] rfl (World.ownsRow_nil _ _ _ _) (.slice (some (a.add (f))) m (c - (f))) m (bv B) rfl SR.out ?q1 (bv_one _) ?q2 ?q3 ?q4 ?_)
  case q1 => rw [bv_length, HBL.out, Nat.mul_one]
  case q2 => unfold maxLen; omega
  case q3 => omega
  case q4 => simp
  intro v1 w2 hown1 hgrow1 _
  have HW1 : Hid (w2.ownsRow (w.heap.size + 2) 5 1 v1 m (bv B)) := by unfold Hid; simpa using hown1
  have L0 : Hid (Below (w.heap.size + 2) ((w.alloc (.cells #[.int .i64 ((f : Int)), .int .i64 ((t : Int)), .bool true, .bool false] 28)).alloc (.cells #[.bool false, .bool false, .slice none 0 0] 33)) w2) := (Below.refl _ _).drew.grown hgrow1 (by simp) (fun k hk => by simp [Value.ownBlock] at hk)
  have L1 : Hid (Below w.heap.size w w2) := (bAlloc (bAlloc (Below.refl _ w) (.cells #[.int .i64 ((f : Int)), .int .i64 ((t : Int)), .bool true, .bool false] 28)) (.cells #[.bool false, .bool false, .slice none 0 0] 33)).trans (L0.out.mono (by omega))
  obtain ⟨ax, cx, ev1⟩ := own_shape HW1.out
  subst ev1
  obtain ⟨k0, k1, k2, k3, z0, z1, z2, y0, y1, y2, hz⟩ := tk_cells L0.out
  clear hown1 hgrow1
  obtain ⟨ao2, c2, e2, T2⟩ := own_txl HW1.out (by omega)
  obtain ⟨g1, g2⟩ : ax = ao2 ∧ cx = c2 := by simpa using e2
  subst g1 g2
  have CB := Hid.mk' (isLE_any _ m _ ((m : Int) - 1) B w2 T2)
  have hlk : lack B = !leB B ((m : Int) - 1) := by unfold lack; rw [HBL.out]; try rfl
  clear e2
  cases hq : leB B ((m : Int) - 1) with
  | true =>
    rw [hq] at CB hlk
    have HTK : Hid (tk l f t true false = B) := HTN.out hlk
    clear hq hlk
    go_wp2_with (go_at_call 129; refine CB.out.mono ?_; rintro e w' ⟨rfl, hw⟩; have hq := hw.symm; subst hq; clear hw)
    exact bodyPost_ret (v := .tuple #[.agg #[.bool true, .bool true, .slice ax m cx], .int .i64 0]) (by simp [results, Tryz.results100, go_sem, z0, z1, z2]) rfl ⟨_, rfl, by rw [HTK.out]; have h := own_set3 (b := w.heap.size) HW1.out (x := .bool true) (y := .bool true) (z := .slice ax m cx); rw [HBL.out]; exact h, bset3' L1.out _ _ _⟩
  | false =>
    rw [hq] at CB hlk
    have HTK : Hid (tk l f t true false = B ++ [10]) := HTY.out hlk
    clear hq hlk
    go_wp2_with (first | (go_at_call 129; refine CB.out.mono ?_; rintro e w' ⟨rfl, hw⟩; have hq := hw.symm; subst hq; clear hw) | (at_builtin; refine append_srv rfl (.tmp 72) (.tmp 73) 22 rfl (w.heap.size + 2) 5 i5 (.int .u8 0) 1 1 Tryz.underlying22 hi5 hz5 hs5 hb5 rfl (by decide) (.slice ax m cx) m (bv B) rfl (HW1.out.alloc _) (.slice (some ⟨w2.heap.size, 0, none⟩) 1 1) 1 [.int .u8 10] rfl (.inr ⟨⟨w2.heap.size, 0, none⟩, 1, rfl, fun j u hj => lit_cells w2 _ 5 j u hj⟩) rfl ?r1 ?r2 ?r3 ?r4 ?_))
    case r1 => intro u hu; simp at hu; subst hu; rfl
    case r2 => unfold maxLen; omega
    case r3 => omega
    case r4 => have := hz; simp; omega
    intro v2 w3 hown2 hgrow2 _
    have HW2 : Hid (w3.ownsRow (w.heap.size + 2) 5 1 v2 (m + 1) (bv (B ++ [10]))) := by unfold Hid; rw [bv_append]; exact hown2
    have L3 : Hid (Below (w.heap.size + 2) ((w.alloc (.cells #[.int .i64 ((f : Int)), .int .i64 ((t : Int)), .bool true, .bool false] 28)).alloc (.cells #[.bool false, .bool false, .slice none 0 0] 33)) w3) := (L0.out.alloc (by omega) _).grown hgrow2 (by simp; omega) (fun k hk => (HW1.out.lt k hk).1)
    have L4 : Hid (Below w.heap.size w w3) := (bAlloc (bAlloc (Below.refl _ w) (.cells #[.int .i64 ((f : Int)), .int .i64 ((t : Int)), .bool true, .bool false] 28)) (.cells #[.bool false, .bool false, .slice none 0 0] 33)).trans (L3.out.mono (by omega))
    obtain ⟨ax2, cx2, ev2⟩ := own_shape HW2.out
    subst ev2
    clear k0 k1 k2 k3 z0 z1 z2 y0 y1 y2 hz
    obtain ⟨k0, k1, k2, k3, z0, z1, z2, y0, y1, y2, hz⟩ := tk_cells L3.out
    clear hown2 hgrow2
    go_wp2
    exact bodyPost_ret (v := .tuple #[.agg #[.bool true, .bool true, .slice ax2 (m + 1) cx2], .int .i64 0]) (by simp [results, Tryz.results100, go_sem, z0, z1, z2]) rfl ⟨_, rfl, by rw [HTK.out]; have h := own_set3 (b := w.heap.size) HW2.out (x := .bool true) (y := .bool true) (z := .slice ax2 (m + 1) cx2); rw [List.length_append, HBL.out]; exact h, bset3' L4.out _ _ _⟩

end Go.Proofs.YtppefcnopkmhbaaGreatDoor
