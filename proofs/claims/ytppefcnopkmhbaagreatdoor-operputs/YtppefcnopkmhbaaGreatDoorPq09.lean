/- Lpr, Tkffn, Tkffe, Tkffm, Tkftn, Tkfte, Tkftm -/
import Derived.Test.YtppefcnopkmhbaaGreatDoorPq08
import Derived.Test.YtppefcnopkmhbaaGreatDoorPq02
namespace Go.Proofs.YtppefcnopkmhbaaGreatDoor
open Go.RowKit

theorem rgB_mk {l : List UInt8} {F T : Int} {L D : Bool} (h1 : 0 ≤ F) (h2 : F ≤ T) (h3 : T ≤ l.length) (h4 : D = false ∨ leB l F = true) : rgB l F T L D = true := by
  unfold rgB
  rw [decide_eq_true ⟨h1, h2, h3⟩, Bool.true_and]
  rcases h4 with h4 | h4
  · rw [h4]; simp
  · rw [h4]; simp
/-- the bytes from a to b -/
def sl (l : List UInt8) (a b : Nat) : List UInt8 := (l.drop a).take (b - a)
theorem sl_app (l : List UInt8) {a b c : Nat} (h1 : a ≤ b) (h2 : b ≤ c) : sl l a b ++ sl l b c = sl l a c := by
  unfold sl
  rw [show c - a = (b - a) + (c - b) from by omega, List.take_add, List.drop_drop, show a + (b - a) = b from by omega]
theorem sl_len {l : List UInt8} {a b : Nat} (hb : b ≤ l.length) : (sl l a b).length = b - a := by unfold sl; simp; omega
theorem sp_mono {l : List UInt8} {i j : Nat} (h : i ≤ j) (hj : j ≤ nl l) : sp l i ≤ sp l j := by
  rcases Nat.lt_or_ge (sp l j) (sp l i) with hh | hh
  · have := (sp_st hj).lt (sp_st (by omega)) hh; omega
  · exact hh
theorem lack_no {l : List UInt8} {a b : Nat} (h : a < b) (hb : b ≤ l.length) (hl : le (at8 l (b - 1)) = true) : lack (sl l a b) = false := by
  have hlen : (sl l a b).length = b - a := sl_len hb
  unfold lack leB
  rw [hlen, decide_eq_true (by omega), Bool.true_and]
  have e : at8 (sl l a b) ((((b - a : Nat) : Int) - 1).toNat) = at8 l (b - 1) := by
    unfold at8 sl
    rw [List.getD_eq_getElem?_getD, List.getD_eq_getElem?_getD, List.getElem?_take, if_pos (by omega), List.getElem?_drop]
    congr 2; omega
  rw [e, hl]; rfl
theorem lack_yes {l : List UInt8} (h : l.length = 0 ∨ le (at8 l (l.length - 1)) = false) : lack l = true := by
  unfold lack leB
  rcases h with h | h
  · rw [h]; rfl
  · rcases Nat.eq_zero_or_pos l.length with h0 | h0
    · rw [h0]; rfl
    · rw [decide_eq_true (by omega), Bool.true_and, show (((l.length : Nat) : Int) - 1).toNat = l.length - 1 from by omega, h]; rfl
end Go.Proofs.YtppefcnopkmhbaaGreatDoor

namespace Go.Proofs.YtppefcnopkmhbaaGreatDoor
open Go.RowKit

set_option maxRecDepth 8000
set_option maxHeartbeats 4000000 in
theorem take_ff_none (w : World) :
    Calls Tryz.prog 100 #[.slice none 0 0, .agg #[.int .i64 0, .int .i64 0, .bool false, .bool false]] w fun e w' => ∃ v, e = tr true false v 0 ∧ w'.ownsRow w.heap.size 5 1 v (tk [] 0 0 false false).length (bv (tk [] 0 0 false false)) ∧ Below w.heap.size w w' := by
  obtain ⟨i5, hi5, hz5, hs5, hb5⟩ := info_parts info5
  have HT := Hid.mk' (tx_nil w)
  obtain ⟨B, hB0⟩ : ∃ B : List UInt8, B = [] := ⟨_, rfl⟩
  have HTK : Hid (tk [] 0 0 false false = B) := by unfold Hid; rw [hB0]; rfl
  have HBL : Hid (B.length = 0) := by unfold Hid; rw [hB0]; rfl
  have HB0 := Hid.mk' hB0
  clear hB0
  have SR : Hid (Srv (((w.alloc (.cells #[.int .i64 (0), .int .i64 (0), .bool false, .bool false] 28)).alloc (.cells #[.bool false, .bool false, .slice none 0 0] 33)).drew) (.slice none 0 0) 0 (bv B)) := by unfold Hid; rw [HB0.out]; exact .inl ⟨rfl, rfl, rfl⟩
  have CL := Hid.mk' (isLE_any none 0 0 0 [] _ (HT.out.keep (bAlloc (bAlloc (Below.refl _ w) (.cells #[.int .i64 (0), .int .i64 (0), .bool false, .bool false] 28)) (.cells #[.bool false, .bool false, .slice none 0 0] 33))))
  go_enter Tryz.func100, Tryz.ntmps100
  go_wp2_with (go_at_call 129; refine CL.out.mono ?_; rintro e w' ⟨rfl, hw⟩; have hq := hw.symm; subst hq; clear hw)
  go_region
  all_goals go_wp2_with (at_builtin; refine append_srv rfl (.const (.slice none 0 0)) (.tmp 57) 22 rfl (w.heap.size + 2) 5 i5 (.int .u8 0) 1 1 Tryz.underlying22 hi5 hz5 hs5 hb5 rfl (by decide) (.slice none 0 0) 0 [] rfl (World.ownsRow_nil _ _ _ _) (.slice none 0 0) 0 (bv B) rfl SR.out ?q1 (bv_one _) ?q2 ?q3 ?q4 ?_)
  case q1 => rw [bv_length, HBL.out, Nat.mul_one]
  case q2 => unfold maxLen; omega
  case q3 => omega
  case q4 => simp
  intro v1 w2 hown1 hgrow1 _
  have HW1 : Hid (w2.ownsRow (w.heap.size + 2) 5 1 v1 0 (bv B)) := by unfold Hid; simpa using hown1
  have L0 : Hid (Below (w.heap.size + 2) ((w.alloc (.cells #[.int .i64 (0), .int .i64 (0), .bool false, .bool false] 28)).alloc (.cells #[.bool false, .bool false, .slice none 0 0] 33)) w2) := (Below.refl _ _).drew.grown hgrow1 (by simp) (fun k hk => by simp [Value.ownBlock] at hk)
  have L1 : Hid (Below w.heap.size w w2) := (bAlloc (bAlloc (Below.refl _ w) (.cells #[.int .i64 (0), .int .i64 (0), .bool false, .bool false] 28)) (.cells #[.bool false, .bool false, .slice none 0 0] 33)).trans (L0.out.mono (by omega))
  obtain ⟨ax, cx, ev1⟩ := own_shape HW1.out
  subst ev1
  obtain ⟨k0, k1, k2, k3, z0, z1, z2, y0, y1, y2, hz⟩ := tk_cells L0.out
  clear hown1 hgrow1
  go_wp2
  exact bodyPost_ret (v := .tuple #[.agg #[.bool true, .bool false, .slice ax 0 cx], .int .i64 0]) (by simp [results, Tryz.results100, go_sem, z0, z1, z2]) rfl ⟨_, rfl, by rw [HTK.out]; have h := own_set3 (b := w.heap.size) HW1.out (x := .bool true) (y := .bool false) (z := .slice ax 0 cx); rw [HBL.out]; exact h, bset3' L1.out _ _ _⟩

end Go.Proofs.YtppefcnopkmhbaaGreatDoor

namespace Go.Proofs.YtppefcnopkmhbaaGreatDoor
open Go.RowKit

set_option maxRecDepth 8000
set_option maxHeartbeats 4000000 in
theorem take_ff_end (n : Nat) (l : List UInt8) (w : World) (a : Addr) (hbig : n ≤ 140737488351232) (HT : Hid (Tx w (some a) n n l)) :
    Calls Tryz.prog 100 #[.slice (some a) n n, .agg #[.int .i64 (n : Int), .int .i64 (n : Int), .bool false, .bool false]] w fun e w' => ∃ v, e = tr true false v 0 ∧ w'.ownsRow w.heap.size 5 1 v (tk l n n false false).length (bv (tk l n n false false)) ∧ Below w.heap.size w w' := by
  obtain ⟨i5, hi5, hz5, hs5, hb5⟩ := info_parts info5
  have hbn : (n : Int) ≤ 140737488351232 := by omega
  obtain ⟨B, hB⟩ : ∃ B, tkb l n n false = B := ⟨_, rfl⟩
  have HTK : Hid (tk l n n false false = B) := by unfold Hid tk; rw [← hB]; rfl
  have hB0 : B = [] := by rw [← hB]; unfold tkb; rw [show n - (n + false.toNat) = 0 from by simp]; rfl
  have HBL : Hid (B.length = 0) := by unfold Hid; rw [hB0]; rfl
  have HB0 := Hid.mk' hB0
  clear hB0
  clear hB
  have SR : Hid (Srv (((w.alloc (.cells #[.int .i64 ((n : Int)), .int .i64 ((n : Int)), .bool false, .bool false] 28)).alloc (.cells #[.bool false, .bool false, .slice none 0 0] 33)).drew) (.slice (some a) 0 0) 0 (bv B)) := by unfold Hid; rw [HB0.out]; exact .inr ⟨a, 0, rfl, fun j u hj => by simp [bv] at hj⟩
  have CL := Hid.mk' (isLE_any (some a) n n (n : Int) l _ (HT.out.keep (bAlloc (bAlloc (Below.refl _ w) (.cells #[.int .i64 ((n : Int)), .int .i64 ((n : Int)), .bool false, .bool false] 28)) (.cells #[.bool false, .bool false, .slice none 0 0] 33))))
  go_enter Tryz.func100, Tryz.ntmps100
  go_wp2_with (go_at_call 129; refine CL.out.mono ?_; rintro e w' ⟨rfl, hw⟩; have hq := hw.symm; subst hq; clear hw)
  go_region
  all_goals go_wp2_with (at_builtin; refine append_srv rfl (.const (.slice none 0 0)) (.tmp 57) 22 rfl (w.heap.size + 2) 5 i5 (.int .u8 0) 1 1 Tryz.underlying22 hi5 hz5 hs5 hb5 rfl (by decide) (.slice none 0 0) 0 [] rfl (World.ownsRow_nil _ _ _ _) (.slice (some a) 0 0) 0 (bv B) rfl SR.out ?q1 (bv_one _) ?q2 ?q3 ?q4 ?_)
  case q1 => rw [bv_length, HBL.out, Nat.mul_one]
  case q2 => unfold maxLen; omega
  case q3 => omega
  case q4 => simp
  intro v1 w2 hown1 hgrow1 _
  have HW1 : Hid (w2.ownsRow (w.heap.size + 2) 5 1 v1 0 (bv B)) := by unfold Hid; simpa using hown1
  have L0 : Hid (Below (w.heap.size + 2) ((w.alloc (.cells #[.int .i64 ((n : Int)), .int .i64 ((n : Int)), .bool false, .bool false] 28)).alloc (.cells #[.bool false, .bool false, .slice none 0 0] 33)) w2) := (Below.refl _ _).drew.grown hgrow1 (by simp) (fun k hk => by simp [Value.ownBlock] at hk)
  have L1 : Hid (Below w.heap.size w w2) := (bAlloc (bAlloc (Below.refl _ w) (.cells #[.int .i64 ((n : Int)), .int .i64 ((n : Int)), .bool false, .bool false] 28)) (.cells #[.bool false, .bool false, .slice none 0 0] 33)).trans (L0.out.mono (by omega))
  obtain ⟨ax, cx, ev1⟩ := own_shape HW1.out
  subst ev1
  obtain ⟨k0, k1, k2, k3, z0, z1, z2, y0, y1, y2, hz⟩ := tk_cells L0.out
  clear hown1 hgrow1
  go_wp2
  exact bodyPost_ret (v := .tuple #[.agg #[.bool true, .bool false, .slice ax 0 cx], .int .i64 0]) (by simp [results, Tryz.results100, go_sem, z0, z1, z2]) rfl ⟨_, rfl, by rw [HTK.out]; have h := own_set3 (b := w.heap.size) HW1.out (x := .bool true) (y := .bool false) (z := .slice ax 0 cx); rw [HBL.out]; exact h, bset3' L1.out _ _ _⟩

end Go.Proofs.YtppefcnopkmhbaaGreatDoor

namespace Go.Proofs.YtppefcnopkmhbaaGreatDoor
open Go.RowKit

set_option maxRecDepth 8000
set_option maxHeartbeats 4000000 in
theorem take_ff_mid (ao0 : Option Addr) (n c f t : Nat) (l : List UInt8) (w : World) (hft : f ≤ t) (htn : t ≤ n) (hbig : n ≤ 140737488351232) (HT : Hid (Tx w ao0 n c l)) (a : Addr) (hao : ao0 = some a) (hce : ¬ c = f) :
    Calls Tryz.prog 100 #[.slice ao0 n c, .agg #[.int .i64 (f : Int), .int .i64 (t : Int), .bool false, .bool false]] w fun e w' => ∃ v, e = tr true false v 0 ∧ w'.ownsRow w.heap.size 5 1 v (tk l f t false false).length (bv (tk l f t false false)) ∧ Below w.heap.size w w' := by
  obtain ⟨i5, hi5, hz5, hs5, hb5⟩ := info_parts info5
  have hlen := Hid.mk' HT.out.len
  have hcap := HT.out.cap
  have hbn : (n : Int) ≤ 140737488351232 := by omega
  have hft' : (f : Int) ≤ t := by omega
  have htn' : (t : Int) ≤ n := by omega
  obtain ⟨B, hB⟩ : ∃ B, tkb l f t false = B := ⟨_, rfl⟩
  have HTK : Hid (tk l f t false false = B) := by unfold Hid tk; rw [← hB]; rfl
  obtain ⟨m, hm⟩ : ∃ m, t - f = m := ⟨_, rfl⟩
  have hB2 : B = (l.drop f).take m := by
    rw [← hB, ← hm]; rfl
  have hmI : (t : Int) - (f : Int) = (m : Int) := by omega
  have hmn : m ≤ n := by omega
  have HBL : Hid (B.length = m) := by unfold Hid; rw [hB2, List.length_take, List.length_drop, hlen.out]; omega
  subst hao
  have T1 := Hid.mk' ((HT.out.tail (s := f) (by omega)).head (i := m) (by omega))
  rw [← hB2] at T1
  have hcn : m ≤ c - (f) := by omega
  have hmN : t - (f) = m := by omega
  clear hB hB2
  have SR : Hid (Srv (((w.alloc (.cells #[.int .i64 ((f : Int)), .int .i64 ((t : Int)), .bool false, .bool false] 28)).alloc (.cells #[.bool false, .bool false, .slice none 0 0] 33)).drew) (.slice (some (a.add (f))) m (c - (f))) m (bv B)) := (T1.out.keep (bAlloc (bAlloc (Below.refl _ w) (.cells #[.int .i64 ((f : Int)), .int .i64 ((t : Int)), .bool false, .bool false] 28)) (.cells #[.bool false, .bool false, .slice none 0 0] 33)).drew).srv
  have CL := Hid.mk' (isLE_any (some a) n c (f : Int) l _ (HT.out.keep (bAlloc (bAlloc (Below.refl _ w) (.cells #[.int .i64 ((f : Int)), .int .i64 ((t : Int)), .bool false, .bool false] 28)) (.cells #[.bool false, .bool false, .slice none 0 0] 33))))
  go_enter Tryz.func100, Tryz.ntmps100
  go_wp2_with (go_at_call 129; refine CL.out.mono ?_; rintro e w' ⟨rfl, hw⟩; have hq := hw.symm; subst hq; clear hw)
  go_region
  all_goals go_wp2_with (at_builtin; refine append_srv rfl (.const (.slice none 0 0)) (.tmp 57) 22 rfl (w.heap.size + 2) 5 i5 (.int .u8 0) 1 1 Tryz.underlying22 hi5 hz5 hs5 hb5 rfl (by decide) (.slice none 0 0) 0 [] rfl (World.ownsRow_nil _ _ _ _) (.slice (some (a.add (f))) m (c - (f))) m (bv B) rfl SR.out ?q1 (bv_one _) ?q2 ?q3 ?q4 ?_)
  case q1 => rw [bv_length, HBL.out, Nat.mul_one]
  case q2 => unfold maxLen; omega
  case q3 => omega
  case q4 => simp
  intro v1 w2 hown1 hgrow1 _
  have HW1 : Hid (w2.ownsRow (w.heap.size + 2) 5 1 v1 m (bv B)) := by unfold Hid; simpa using hown1
  have L0 : Hid (Below (w.heap.size + 2) ((w.alloc (.cells #[.int .i64 ((f : Int)), .int .i64 ((t : Int)), .bool false, .bool false] 28)).alloc (.cells #[.bool false, .bool false, .slice none 0 0] 33)) w2) := (Below.refl _ _).drew.grown hgrow1 (by simp) (fun k hk => by simp [Value.ownBlock] at hk)
  have L1 : Hid (Below w.heap.size w w2) := (bAlloc (bAlloc (Below.refl _ w) (.cells #[.int .i64 ((f : Int)), .int .i64 ((t : Int)), .bool false, .bool false] 28)) (.cells #[.bool false, .bool false, .slice none 0 0] 33)).trans (L0.out.mono (by omega))
  obtain ⟨ax, cx, ev1⟩ := own_shape HW1.out
  subst ev1
  obtain ⟨k0, k1, k2, k3, z0, z1, z2, y0, y1, y2, hz⟩ := tk_cells L0.out
  clear hown1 hgrow1
  go_wp2
  exact bodyPost_ret (v := .tuple #[.agg #[.bool true, .bool false, .slice ax m cx], .int .i64 0]) (by simp [results, Tryz.results100, go_sem, z0, z1, z2]) rfl ⟨_, rfl, by rw [HTK.out]; have h := own_set3 (b := w.heap.size) HW1.out (x := .bool true) (y := .bool false) (z := .slice ax m cx); rw [HBL.out]; exact h, bset3' L1.out _ _ _⟩

end Go.Proofs.YtppefcnopkmhbaaGreatDoor

namespace Go.Proofs.YtppefcnopkmhbaaGreatDoor
open Go.RowKit

set_option maxRecDepth 8000
set_option maxHeartbeats 4000000 in
theorem take_ft_none (w : World) :
    Calls Tryz.prog 100 #[.slice none 0 0, .agg #[.int .i64 0, .int .i64 0, .bool false, .bool true]] w fun e w' => ∃ v, e = tr true false v 0 ∧ w'.ownsRow w.heap.size 5 1 v (tk [] 0 0 false true).length (bv (tk [] 0 0 false true)) ∧ Below w.heap.size w w' := by
  obtain ⟨i5, hi5, hz5, hs5, hb5⟩ := info_parts info5
  have HT := Hid.mk' (tx_nil w)
  obtain ⟨B, hB0⟩ : ∃ B : List UInt8, B = [] := ⟨_, rfl⟩
  have HTK : Hid (tk [] 0 0 false true = B) := by unfold Hid; rw [hB0]; rfl
  have HBL : Hid (B.length = 0) := by unfold Hid; rw [hB0]; rfl
  have HB0 := Hid.mk' hB0
  clear hB0
  have SR : Hid (Srv (((w.alloc (.cells #[.int .i64 (0), .int .i64 (0), .bool false, .bool true] 28)).alloc (.cells #[.bool false, .bool false, .slice none 0 0] 33)).drew) (.slice none 0 0) 0 (bv B)) := by unfold Hid; rw [HB0.out]; exact .inl ⟨rfl, rfl, rfl⟩
  have CL := Hid.mk' (isLE_any none 0 0 0 [] _ (HT.out.keep (bAlloc (bAlloc (Below.refl _ w) (.cells #[.int .i64 (0), .int .i64 (0), .bool false, .bool true] 28)) (.cells #[.bool false, .bool false, .slice none 0 0] 33))))
  go_enter Tryz.func100, Tryz.ntmps100
  go_wp2_with (go_at_call 129; refine CL.out.mono ?_; rintro e w' ⟨rfl, hw⟩; have hq := hw.symm; subst hq; clear hw)
  go_region
  all_goals go_wp2_with (at_builtin; refine append_srv rfl (.const (.slice none 0 0)) (.tmp 57) 22 rfl (w.heap.size + 2) 5 i5 (.int .u8 0) 1 1 Tryz.underlying22 hi5 hz5 hs5 hb5 rfl (by decide) (.slice none 0 0) 0 [] rfl (World.ownsRow_nil _ _ _ _) (.slice none 0 0) 0 (bv B) rfl SR.out ?q1 (bv_one _) ?q2 ?q3 ?q4 ?_)
  case q1 => rw [bv_length, HBL.out, Nat.mul_one]
  case q2 => unfold maxLen; omega
  case q3 => omega
  case q4 => simp
  intro v1 w2 hown1 hgrow1 _
  have HW1 : Hid (w2.ownsRow (w.heap.size + 2) 5 1 v1 0 (bv B)) := by unfold Hid; simpa using hown1
  have L0 : Hid (Below (w.heap.size + 2) ((w.alloc (.cells #[.int .i64 (0), .int .i64 (0), .bool false, .bool true] 28)).alloc (.cells #[.bool false, .bool false, .slice none 0 0] 33)) w2) := (Below.refl _ _).drew.grown hgrow1 (by simp) (fun k hk => by simp [Value.ownBlock] at hk)
  have L1 : Hid (Below w.heap.size w w2) := (bAlloc (bAlloc (Below.refl _ w) (.cells #[.int .i64 (0), .int .i64 (0), .bool false, .bool true] 28)) (.cells #[.bool false, .bool false, .slice none 0 0] 33)).trans (L0.out.mono (by omega))
  obtain ⟨ax, cx, ev1⟩ := own_shape HW1.out
  subst ev1
  obtain ⟨k0, k1, k2, k3, z0, z1, z2, y0, y1, y2, hz⟩ := tk_cells L0.out
  clear hown1 hgrow1
  go_wp2
  exact bodyPost_ret (v := .tuple #[.agg #[.bool true, .bool false, .slice ax 0 cx], .int .i64 0]) (by simp [results, Tryz.results100, go_sem, z0, z1, z2]) rfl ⟨_, rfl, by rw [HTK.out]; have h := own_set3 (b := w.heap.size) HW1.out (x := .bool true) (y := .bool false) (z := .slice ax 0 cx); rw [HBL.out]; exact h, bset3' L1.out _ _ _⟩

end Go.Proofs.YtppefcnopkmhbaaGreatDoor

namespace Go.Proofs.YtppefcnopkmhbaaGreatDoor
open Go.RowKit

set_option maxRecDepth 8000
set_option maxHeartbeats 4000000 in
theorem take_ft_end (n : Nat) (l : List UInt8) (w : World) (a : Addr) (hbig : n ≤ 140737488351232) (HT : Hid (Tx w (some a) n n l)) :
    Calls Tryz.prog 100 #[.slice (some a) n n, .agg #[.int .i64 (n : Int), .int .i64 (n : Int), .bool false, .bool true]] w fun e w' => ∃ v, e = tr true false v 0 ∧ w'.ownsRow w.heap.size 5 1 v (tk l n n false true).length (bv (tk l n n false true)) ∧ Below w.heap.size w w' := by
  obtain ⟨i5, hi5, hz5, hs5, hb5⟩ := info_parts info5
  have hbn : (n : Int) ≤ 140737488351232 := by omega
  obtain ⟨B, hB⟩ : ∃ B, tkb l n n false = B := ⟨_, rfl⟩
  have HTK : Hid (tk l n n false true = B) := by unfold Hid tk; rw [← hB]; rfl
  have hB0 : B = [] := by rw [← hB]; unfold tkb; rw [show n - (n + false.toNat) = 0 from by simp]; rfl
  have HBL : Hid (B.length = 0) := by unfold Hid; rw [hB0]; rfl
  have HB0 := Hid.mk' hB0
  clear hB0
  clear hB
  have SR : Hid (Srv (((w.alloc (.cells #[.int .i64 ((n : Int)), .int .i64 ((n : Int)), .bool false, .bool true] 28)).alloc (.cells #[.bool false, .bool false, .slice none 0 0] 33)).drew) (.slice (some a) 0 0) 0 (bv B)) := by unfold Hid; rw [HB0.out]; exact .inr ⟨a, 0, rfl, fun j u hj => by simp [bv] at hj⟩
  have CL := Hid.mk' (isLE_any (some a) n n (n : Int) l _ (HT.out.keep (bAlloc (bAlloc (Below.refl _ w) (.cells #[.int .i64 ((n : Int)), .int .i64 ((n : Int)), .bool false, .bool true] 28)) (.cells #[.bool false, .bool false, .slice none 0 0] 33))))
  go_enter Tryz.func100, Tryz.ntmps100
  go_wp2_with (go_at_call 129; refine CL.out.mono ?_; rintro e w' ⟨rfl, hw⟩; have hq := hw.symm; subst hq; clear hw)
  go_region
  all_goals go_wp2_with (at_builtin; refine append_srv rfl (.const (.slice none 0 0)) (.tmp 57) 22 rfl (w.heap.size + 2) 5 i5 (.int .u8 0) 1 1 Tryz.underlying22 hi5 hz5 hs5 hb5 rfl (by decide) (.slice none 0 0) 0 [] rfl (World.ownsRow_nil _ _ _ _) (.slice (some a) 0 0) 0 (bv B) rfl SR.out ?q1 (bv_one _) ?q2 ?q3 ?q4 ?_)
  case q1 => rw [bv_length, HBL.out, Nat.mul_one]
  case q2 => unfold maxLen; omega
  case q3 => omega
  case q4 => simp
  intro v1 w2 hown1 hgrow1 _
  have HW1 : Hid (w2.ownsRow (w.heap.size + 2) 5 1 v1 0 (bv B)) := by unfold Hid; simpa using hown1
  have L0 : Hid (Below (w.heap.size + 2) ((w.alloc (.cells #[.int .i64 ((n : Int)), .int .i64 ((n : Int)), .bool false, .bool true] 28)).alloc (.cells #[.bool false, .bool false, .slice none 0 0] 33)) w2) := (Below.refl _ _).drew.grown hgrow1 (by simp) (fun k hk => by simp [Value.ownBlock] at hk)
  have L1 : Hid (Below w.heap.size w w2) := (bAlloc (bAlloc (Below.refl _ w) (.cells #[.int .i64 ((n : Int)), .int .i64 ((n : Int)), .bool false, .bool true] 28)) (.cells #[.bool false, .bool false, .slice none 0 0] 33)).trans (L0.out.mono (by omega))
  obtain ⟨ax, cx, ev1⟩ := own_shape HW1.out
  subst ev1
  obtain ⟨k0, k1, k2, k3, z0, z1, z2, y0, y1, y2, hz⟩ := tk_cells L0.out
  clear hown1 hgrow1
  go_wp2
  exact bodyPost_ret (v := .tuple #[.agg #[.bool true, .bool false, .slice ax 0 cx], .int .i64 0]) (by simp [results, Tryz.results100, go_sem, z0, z1, z2]) rfl ⟨_, rfl, by rw [HTK.out]; have h := own_set3 (b := w.heap.size) HW1.out (x := .bool true) (y := .bool false) (z := .slice ax 0 cx); rw [HBL.out]; exact h, bset3' L1.out _ _ _⟩

end Go.Proofs.YtppefcnopkmhbaaGreatDoor

namespace Go.Proofs.YtppefcnopkmhbaaGreatDoor
open Go.RowKit

set_option maxRecDepth 8000
set_option maxHeartbeats 4000000 in
theorem take_ft_mid (ao0 : Option Addr) (n c f t : Nat) (l : List UInt8) (w : World) (hft : f ≤ t) (htn : t ≤ n) (hbig : n ≤ 140737488351232) (HT : Hid (Tx w ao0 n c l)) (a : Addr) (hao : ao0 = some a) (hce : ¬ c = f) :
    Calls Tryz.prog 100 #[.slice ao0 n c, .agg #[.int .i64 (f : Int), .int .i64 (t : Int), .bool false, .bool true]] w fun e w' => ∃ v, e = tr true false v 0 ∧ w'.ownsRow w.heap.size 5 1 v (tk l f t false true).length (bv (tk l f t false true)) ∧ Below w.heap.size w w' := by
  obtain ⟨i5, hi5, hz5, hs5, hb5⟩ := info_parts info5
  have hlen := Hid.mk' HT.out.len
  have hcap := HT.out.cap
  have hbn : (n : Int) ≤ 140737488351232 := by omega
  have hft' : (f : Int) ≤ t := by omega
  have htn' : (t : Int) ≤ n := by omega
  obtain ⟨B, hB⟩ : ∃ B, tkb l f t false = B := ⟨_, rfl⟩
  have HTK : Hid (tk l f t false true = B) := by unfold Hid tk; rw [← hB]; rfl
  obtain ⟨m, hm⟩ : ∃ m, t - f = m := ⟨_, rfl⟩
  have hB2 : B = (l.drop f).take m := by
    rw [← hB, ← hm]; rfl
  have hmI : (t : Int) - (f : Int) = (m : Int) := by omega
  have hmn : m ≤ n := by omega
  have HBL : Hid (B.length = m) := by unfold Hid; rw [hB2, List.length_take, List.length_drop, hlen.out]; omega
  subst hao
  have T1 := Hid.mk' ((HT.out.tail (s := f) (by omega)).head (i := m) (by omega))
  rw [← hB2] at T1
  have hcn : m ≤ c - (f) := by omega
  have hmN : t - (f) = m := by omega
  clear hB hB2
  have SR : Hid (Srv (((w.alloc (.cells #[.int .i64 ((f : Int)), .int .i64 ((t : Int)), .bool false, .bool true] 28)).alloc (.cells #[.bool false, .bool false, .slice none 0 0] 33)).drew) (.slice (some (a.add (f))) m (c - (f))) m (bv B)) := (T1.out.keep (bAlloc (bAlloc (Below.refl _ w) (.cells #[.int .i64 ((f : Int)), .int .i64 ((t : Int)), .bool false, .bool true] 28)) (.cells #[.bool false, .bool false, .slice none 0 0] 33)).drew).srv
  have CL := Hid.mk' (isLE_any (some a) n c (f : Int) l _ (HT.out.keep (bAlloc (bAlloc (Below.refl _ w) (.cells #[.int .i64 ((f : Int)), .int .i64 ((t : Int)), .bool false, .bool true] 28)) (.cells #[.bool false, .bool false, .slice none 0 0] 33))))
  go_enter Tryz.func100, Tryz.ntmps100
  go_wp2_with (go_at_call 129; refine CL.out.mono ?_; rintro e w' ⟨rfl, hw⟩; have hq := hw.symm; subst hq; clear hw)
  go_region
  all_goals go_wp2_with (at_builtin; refine append_srv rfl (.const (.slice none 0 0)) (.tmp 57) 22 rfl (w.heap.size + 2) 5 i5 (.int .u8 0) 1 1 Tryz.underlying22 hi5 hz5 hs5 hb5 rfl (by decide) (.slice none 0 0) 0 [] rfl (World.ownsRow_nil _ _ _ _) (.slice (some (a.add (f))) m (c - (f))) m (bv B) rfl SR.out ?q1 (bv_one _) ?q2 ?q3 ?q4 ?_)
  case q1 => rw [bv_length, HBL.out, Nat.mul_one]
  case q2 => unfold maxLen; omega
  case q3 => omega
  case q4 => simp
  intro v1 w2 hown1 hgrow1 _
  have HW1 : Hid (w2.ownsRow (w.heap.size + 2) 5 1 v1 m (bv B)) := by unfold Hid; simpa using hown1
  have L0 : Hid (Below (w.heap.size + 2) ((w.alloc (.cells #[.int .i64 ((f : Int)), .int .i64 ((t : Int)), .bool false, .bool true] 28)).alloc (.cells #[.bool false, .bool false, .slice none 0 0] 33)) w2) := (Below.refl _ _).drew.grown hgrow1 (by simp) (fun k hk => by simp [Value.ownBlock] at hk)
  have L1 : Hid (Below w.heap.size w w2) := (bAlloc (bAlloc (Below.refl _ w) (.cells #[.int .i64 ((f : Int)), .int .i64 ((t : Int)), .bool false, .bool true] 28)) (.cells #[.bool false, .bool false, .slice none 0 0] 33)).trans (L0.out.mono (by omega))
  obtain ⟨ax, cx, ev1⟩ := own_shape HW1.out
  subst ev1
  obtain ⟨k0, k1, k2, k3, z0, z1, z2, y0, y1, y2, hz⟩ := tk_cells L0.out
  clear hown1 hgrow1
  go_wp2
  exact bodyPost_ret (v := .tuple #[.agg #[.bool true, .bool false, .slice ax m cx], .int .i64 0]) (by simp [results, Tryz.results100, go_sem, z0, z1, z2]) rfl ⟨_, rfl, by rw [HTK.out]; have h := own_set3 (b := w.heap.size) HW1.out (x := .bool true) (y := .bool false) (z := .slice ax m cx); rw [HBL.out]; exact h, bset3' L1.out _ _ _⟩

end Go.Proofs.YtppefcnopkmhbaaGreatDoor
