/- Tktte, Tkttm, Tak, Eff, Swp -/
import Derived.Test.YtppefcnopkmhbaaGreatDoorPt10
import Derived.Test.YtppefcnopkmhbaaGreatDoorPt07
import Derived.Test.YtppefcnopkmhbaaGreatDoorPt11
import Derived.Test.YtppefcnopkmhbaaGreatDoorPt06
namespace Go.Proofs.YtppefcnopkmhbaaGreatDoor
open Go.RowKit

set_option maxRecDepth 8000
set_option maxHeartbeats 4000000 in
theorem take_tt_end (f t : Nat) (l : List UInt8) (w : World) (a : Addr) (hft : f ≤ t) (htn : t ≤ f + 1) (hbig : f + 1 ≤ 140737488351232) (HT : Hid (Tx w (some a) (f + 1) (f + 1) l)) (hlead : leB l (f : Int) = true) :
    Calls Tryz.prog 100 #[.slice (some a) (f + 1) (f + 1), .agg #[.int .i64 (f : Int), .int .i64 (t : Int), .bool true, .bool true]] w fun e w' => ∃ v, e = tr true true v 0 ∧ w'.ownsRow w.heap.size 5 1 v (tk l f t true true).length (bv (tk l f t true true)) ∧ Below w.heap.size w w' := by
  obtain ⟨i5, hi5, hz5, hs5, hb5⟩ := info_parts info5
  have hlen := Hid.mk' HT.out.len
  have hbn : (f : Int) ≤ 140737488351232 := by omega
  have hft' : (f : Int) ≤ t := by omega
  have htn' : (t : Int) ≤ (f : Int) + 1 := by omega
  obtain ⟨B, hB⟩ : ∃ B, tkb l f t true = B := ⟨_, rfl⟩
  have HTK : Hid (tk l f t true true = B ++ [10]) := by unfold Hid tk; rw [← hB]; rfl
  have hmx : max ((f : Int) + 1) (t : Int) = (f : Int) + 1 := by omega
  have hB0 : B = [] := by rw [← hB]; unfold tkb; rw [show t - (f + true.toNat) = 0 from by simp; omega]; rfl
  have HBL : Hid (B.length = 0) := by unfold Hid; rw [hB0]; rfl
  have HB0 := Hid.mk' hB0
  clear hB0
  clear hB
  have SR : Hid (Srv (((w.alloc (.cells #[.int .i64 ((f : Int)), .int .i64 ((t : Int)), .bool true, .bool true] 28)).alloc (.cells #[.bool false, .bool false, .slice none 0 0] 33)).drew) (.slice (some a) 0 0) 0 (bv B)) := by unfold Hid; rw [HB0.out]; exact .inr ⟨a, 0, rfl, fun j u hj => by simp [bv] at hj⟩
  have CL := Hid.mk' (isLE_any (some a) (f + 1) (f + 1) (f : Int) l _ (HT.out.keep (bAlloc (bAlloc (Below.refl _ w) (.cells #[.int .i64 ((f : Int)), .int .i64 ((t : Int)), .bool true, .bool true] 28)) (.cells #[.bool false, .bool false, .slice none 0 0] 33))))
  rw [hlead] at CL
  go_enter Tryz.func100, Tryz.ntmps100
  go_wp2_with (go_at_call 129; refine CL.out.mono ?_; rintro e w' ⟨rfl, hw⟩; have hq := hw.symm; subst hq; clear hw)
  go_region
  all_goals go_wp2_with (at_builtin; refine append_srv rfl (.const (.slice none 0 0)) (.tmp 57) 22 rfl (w.heap.size + 2) 5 i5 (.int .u8 0) 1 1 Tryz.underlying22 hi5 hz5 hs5 hb5 rfl (by decide) (.slice none 0 0) 0 [] rfl (World.ownsRow_nil _ _ _ _) (.slice (some a) 0 0) 0 (bv B) rfl SR.out ?q1 (bv_one _) ?q2 ?q3 ?q4 ?_)
  case q1 => rw [bv_length, HBL.out, Nat.mul_one]
  case q2 => unfold maxLen; omega
  case q3 => omega
  case q4 => simp
  intro v1 w2 hown1 hgrow1 _
  have HW1 : Hid (w2.ownsRow (w.heap.size + 2) 5 1 v1 0 (bv B)) := by unfold Hid; simpa using hown1
  have L0 : Hid (Below (w.heap.size + 2) ((w.alloc (.cells #[.int .i64 ((f : Int)), .int .i64 ((t : Int)), .bool true, .bool true] 28)).alloc (.cells #[.bool false, .bool false, .slice none 0 0] 33)) w2) := (Below.refl _ _).drew.grown hgrow1 (by simp) (fun k hk => by simp [Value.ownBlock] at hk)
  have L1 : Hid (Below w.heap.size w w2) := (bAlloc (bAlloc (Below.refl _ w) (.cells #[.int .i64 ((f : Int)), .int .i64 ((t : Int)), .bool true, .bool true] 28)) (.cells #[.bool false, .bool false, .slice none 0 0] 33)).trans (L0.out.mono (by omega))
  obtain ⟨ax, cx, ev1⟩ := own_shape HW1.out
  subst ev1
  obtain ⟨k0, k1, k2, k3, z0, z1, z2, y0, y1, y2, hz⟩ := tk_cells L0.out
  clear hown1 hgrow1
  go_wp2_with (at_builtin; refine append_srv rfl (.tmp 72) (.tmp 73) 22 rfl (w.heap.size + 2) 5 i5 (.int .u8 0) 1 1 Tryz.underlying22 hi5 hz5 hs5 hb5 rfl (by decide) (.slice ax 0 cx) 0 (bv B) rfl (HW1.out.alloc _) (.slice (some ⟨w2.heap.size, 0, none⟩) 1 1) 1 [.int .u8 10] rfl (.inr ⟨⟨w2.heap.size, 0, none⟩, 1, rfl, fun j u hj => lit_cells w2 _ 5 j u hj⟩) rfl ?r1 ?r2 ?r3 ?r4 ?_)
  case r1 => intro u hu; simp at hu; subst hu; rfl
  case r2 => unfold maxLen; omega
  case r3 => omega
  case r4 => have := hz; simp; omega
  intro v2 w3 hown2 hgrow2 _
  have HW2 : Hid (w3.ownsRow (w.heap.size + 2) 5 1 v2 (0 + 1) (bv (B ++ [10]))) := by unfold Hid; rw [bv_append]; exact hown2
  have L3 : Hid (Below (w.heap.size + 2) ((w.alloc (.cells #[.int .i64 ((f : Int)), .int .i64 ((t : Int)), .bool true, .bool true] 28)).alloc (.cells #[.bool false, .bool false, .slice none 0 0] 33)) w3) := (L0.out.alloc (by omega) _).grown hgrow2 (by simp; omega) (fun k hk => (HW1.out.lt k hk).1)
  have L4 : Hid (Below w.heap.size w w3) := (bAlloc (bAlloc (Below.refl _ w) (.cells #[.int .i64 ((f : Int)), .int .i64 ((t : Int)), .bool true, .bool true] 28)) (.cells #[.bool false, .bool false, .slice none 0 0] 33)).trans (L3.out.mono (by omega))
  obtain ⟨ax2, cx2, ev2⟩ := own_shape HW2.out
  subst ev2
  clear k0 k1 k2 k3 z0 z1 z2 y0 y1 y2 hz
  obtain ⟨k0, k1, k2, k3, z0, z1, z2, y0, y1, y2, hz⟩ := tk_cells L3.out
  clear hown2 hgrow2
  go_wp2
  exact bodyPost_ret (v := .tuple #[.agg #[.bool true, .bool true, .slice ax2 (0 + 1) cx2], .int .i64 0]) (by simp [results, Tryz.results100, go_sem, z0, z1, z2]) rfl ⟨_, rfl, by rw [HTK.out]; have h := own_set3 (b := w.heap.size) HW2.out (x := .bool true) (y := .bool true) (z := .slice ax2 (0 + 1) cx2); rw [List.length_append, HBL.out]; exact h, bset3' L4.out _ _ _⟩

end Go.Proofs.YtppefcnopkmhbaaGreatDoor

namespace Go.Proofs.YtppefcnopkmhbaaGreatDoor
open Go.RowKit

set_option maxRecDepth 8000
set_option maxHeartbeats 4000000 in
theorem take_tt_mid (ao0 : Option Addr) (n c f t : Nat) (l : List UInt8) (w : World) (hft : f ≤ t) (htn : t ≤ n) (hbig : n ≤ 140737488351232) (HT : Hid (Tx w ao0 n c l)) (hlead : leB l (f : Int) = true) (a : Addr) (hao : ao0 = some a) (hce : ¬ c = f + 1) :
    Calls Tryz.prog 100 #[.slice ao0 n c, .agg #[.int .i64 (f : Int), .int .i64 (t : Int), .bool true, .bool true]] w fun e w' => ∃ v, e = tr true true v 0 ∧ w'.ownsRow w.heap.size 5 1 v (tk l f t true true).length (bv (tk l f t true true)) ∧ Below w.heap.size w w' := by
  obtain ⟨i5, hi5, hz5, hs5, hb5⟩ := info_parts info5
  have hlen := Hid.mk' HT.out.len
  have hcap := HT.out.cap
  have hbn : (n : Int) ≤ 140737488351232 := by omega
  have hft' : (f : Int) ≤ t := by omega
  have htn' : (t : Int) ≤ n := by omega
  obtain ⟨B, hB⟩ : ∃ B, tkb l f t true = B := ⟨_, rfl⟩
  have HTK : Hid (tk l f t true true = B ++ [10]) := by unfold Hid tk; rw [← hB]; rfl
  have hfn : f < n := by
    unfold leB at hlead
    have := of_decide_eq_true (Bool.and_eq_true_iff.1 hlead).1
    have := hlen.out
    omega
  have hfn' : (f : Int) + 1 ≤ n := by omega
  obtain ⟨T, hT⟩ : ∃ T, max (f + 1) t = T := ⟨_, rfl⟩
  have hmx : max ((f : Int) + 1) (t : Int) = (T : Int) := by omega
  have hTn : T ≤ n := by omega
  have hTn' : (T : Int) ≤ n := by omega
  have hfT' : (f : Int) + 1 ≤ T := by omega
  obtain ⟨m, hm⟩ : ∃ m, T - (f + 1) = m := ⟨_, rfl⟩
  have hB2 : B = (l.drop (f + 1)).take m := by
    rw [← hB]; unfold tkb
    rw [show f + true.toNat = f + 1 from rfl]
    congr 1; omega
  have hmI : (T : Int) - ((f : Int) + 1) = (m : Int) := by omega
  have hmn : m ≤ n := by omega
  have HBL : Hid (B.length = m) := by unfold Hid; rw [hB2, List.length_take, List.length_drop, hlen.out]; omega
  subst hao
  have T1 := Hid.mk' ((HT.out.tail (s := f + 1) (by omega)).head (i := m) (by omega))
  rw [← hB2] at T1
  have hcn : m ≤ c - (f + 1) := by omega
  have hmN : T - (f + 1) = m := by omega
  clear hB hB2
  have SR : Hid (Srv (((w.alloc (.cells #[.int .i64 ((f : Int)), .int .i64 ((t : Int)), .bool true, .bool true] 28)).alloc (.cells #[.bool false, .bool false, .slice none 0 0] 33)).drew) (.slice (some (a.add (f + 1))) m (c - (f + 1))) m (bv B)) := (T1.out.keep (bAlloc (bAlloc (Below.refl _ w) (.cells #[.int .i64 ((f : Int)), .int .i64 ((t : Int)), .bool true, .bool true] 28)) (.cells #[.bool false, .bool false, .slice none 0 0] 33)).drew).srv
  have CL := Hid.mk' (isLE_any (some a) n c (f : Int) l _ (HT.out.keep (bAlloc (bAlloc (Below.refl _ w) (.cells #[.int .i64 ((f : Int)), .int .i64 ((t : Int)), .bool true, .bool true] 28)) (.cells #[.bool false, .bool false, .slice none 0 0] 33))))
  rw [hlead] at CL
  go_enter Tryz.func100, Tryz.ntmps100
  go_wp2_with (go_at_call 129; refine CL.out.mono ?_; rintro e w' ⟨rfl, hw⟩; have hq := hw.symm; subst hq; clear hw)
  go_region
  all_goals go_wp2_with (at_builtin; refine append_srv rfl (.const (.slice none 0 0)) (.tmp 57) 22 rfl (w.heap.size + 2) 5 i5 (.int .u8 0) 1 1 Tryz.underlying22 hi5 hz5 hs5 hb5 rfl (by decide) (.slice none 0 0) 0 [] rfl (World.ownsRow_nil _ _ _ _) (.slice (some (a.add (f + 1))) m (c - (f + 1))) m (bv B) rfl SR.out ?q1 (bv_one _) ?q2 ?q3 ?q4 ?_)
  case q1 => rw [bv_length, HBL.out, Nat.mul_one]
  case q2 => unfold maxLen; omega
  case q3 => omega
  case q4 => simp
  intro v1 w2 hown1 hgrow1 _
  have HW1 : Hid (w2.ownsRow (w.heap.size + 2) 5 1 v1 m (bv B)) := by unfold Hid; simpa using hown1
  have L0 : Hid (Below (w.heap.size + 2) ((w.alloc (.cells #[.int .i64 ((f : Int)), .int .i64 ((t : Int)), .bool true, .bool true] 28)).alloc (.cells #[.bool false, .bool false, .slice none 0 0] 33)) w2) := (Below.refl _ _).drew.grown hgrow1 (by simp) (fun k hk => by simp [Value.ownBlock] at hk)
  have L1 : Hid (Below w.heap.size w w2) := (bAlloc (bAlloc (Below.refl _ w) (.cells #[.int .i64 ((f : Int)), .int .i64 ((t : Int)), .bool true, .bool true] 28)) (.cells #[.bool false, .bool false, .slice none 0 0] 33)).trans (L0.out.mono (by omega))
  obtain ⟨ax, cx, ev1⟩ := own_shape HW1.out
  subst ev1
  obtain ⟨k0, k1, k2, k3, z0, z1, z2, y0, y1, y2, hz⟩ := tk_cells L0.out
  clear hown1 hgrow1
  go_wp2_with (at_builtin; refine append_srv rfl (.tmp 72) (.tmp 73) 22 rfl (w.heap.size + 2) 5 i5 (.int .u8 0) 1 1 Tryz.underlying22 hi5 hz5 hs5 hb5 rfl (by decide) (.slice ax m cx) m (bv B) rfl (HW1.out.alloc _) (.slice (some ⟨w2.heap.size, 0, none⟩) 1 1) 1 [.int .u8 10] rfl (.inr ⟨⟨w2.heap.size, 0, none⟩, 1, rfl, fun j u hj => lit_cells w2 _ 5 j u hj⟩) rfl ?r1 ?r2 ?r3 ?r4 ?_)
  case r1 => intro u hu; simp at hu; subst hu; rfl
  case r2 => unfold maxLen; omega
  case r3 => omega
  case r4 => have := hz; simp; omega
  intro v2 w3 hown2 hgrow2 _
  have HW2 : Hid (w3.ownsRow (w.heap.size + 2) 5 1 v2 (m + 1) (bv (B ++ [10]))) := by unfold Hid; rw [bv_append]; exact hown2
  have L3 : Hid (Below (w.heap.size + 2) ((w.alloc (.cells #[.int .i64 ((f : Int)), .int .i64 ((t : Int)), .bool true, .bool true] 28)).alloc (.cells #[.bool false, .bool false, .slice none 0 0] 33)) w3) := (L0.out.alloc (by omega) _).grown hgrow2 (by simp; omega) (fun k hk => (HW1.out.lt k hk).1)
  have L4 : Hid (Below w.heap.size w w3) := (bAlloc (bAlloc (Below.refl _ w) (.cells #[.int .i64 ((f : Int)), .int .i64 ((t : Int)), .bool true, .bool true] 28)) (.cells #[.bool false, .bool false, .slice none 0 0] 33)).trans (L3.out.mono (by omega))
  obtain ⟨ax2, cx2, ev2⟩ := own_shape HW2.out
  subst ev2
  clear k0 k1 k2 k3 z0 z1 z2 y0 y1 y2 hz
  obtain ⟨k0, k1, k2, k3, z0, z1, z2, y0, y1, y2, hz⟩ := tk_cells L3.out
  clear hown2 hgrow2
  go_wp2
  exact bodyPost_ret (v := .tuple #[.agg #[.bool true, .bool true, .slice ax2 (m + 1) cx2], .int .i64 0]) (by simp [results, Tryz.results100, go_sem, z0, z1, z2]) rfl ⟨_, rfl, by rw [HTK.out]; have h := own_set3 (b := w.heap.size) HW2.out (x := .bool true) (y := .bool true) (z := .slice ax2 (m + 1) cx2); rw [List.length_append, HBL.out]; exact h, bset3' L4.out _ _ _⟩

end Go.Proofs.YtppefcnopkmhbaaGreatDoor

namespace Go.Proofs.YtppefcnopkmhbaaGreatDoor
open Go.RowKit

theorem take_yes (ao : Option Addr) (n c f t : Nat) (L D : Bool) (l : List UInt8) (w : World) (hbig : n ≤ 140737488351232) (h : rgB l (f : Int) (t : Int) L D = true) (HT : Hid (Tx w ao n c l)) :
    Calls Tryz.prog 100 #[.slice ao n c, .agg #[.int .i64 (f : Int), .int .i64 (t : Int), .bool L, .bool D]] w fun e w' => ∃ v, e = tr true L v 0 ∧ w'.ownsRow w.heap.size 5 1 v (tk l f t L D).length (bv (tk l f t L D)) ∧ Below w.heap.size w w' := by
  have hlen := HT.out.len
  have hcap := HT.out.cap
  unfold rgB at h
  obtain ⟨h1, h2⟩ := Bool.and_eq_true_iff.1 h
  have h1 := of_decide_eq_true h1
  have hft : f ≤ t := by omega
  have htn : t ≤ n := by omega
  by_cases hl : (L && D) = true
  · obtain ⟨rfl, rfl⟩ := Bool.and_eq_true_iff.1 hl
    have h2 : leB l (f : Int) = true := by simpa using h2
    have hfn : f < n := by
      unfold leB at h2
      have := of_decide_eq_true (Bool.and_eq_true_iff.1 h2).1
      omega
    cases ao with
    | none => have := HT.out.none; omega
    | some a =>
      by_cases hc : c = f + 1
      · obtain rfl : n = f + 1 := by omega
        subst hc
        exact take_tt_end f t l w a hft htn hbig HT h2
      · exact take_tt_mid (some a) n c f t l w hft htn hbig HT h2 a rfl hc
  · cases ao with
    | none =>
      obtain ⟨rfl, rfl, rfl⟩ := HT.out.none
      obtain rfl : t = 0 := by omega
      obtain rfl : f = 0 := by omega
      cases L <;> cases D
      · exact take_ff_none w
      · exact take_ft_none w
      · exact take_tf_none w
      · exact absurd rfl hl
    | some a =>
      by_cases hc : c = f
      · obtain rfl : n = f := by omega
        obtain rfl : t = n := by omega
        subst hc
        cases L <;> cases D
        · exact take_ff_end _ l w a hbig HT
        · exact take_ft_end _ l w a hbig HT
        · exact take_tf_end _ l w a hbig HT
        · exact absurd rfl hl
      · cases L <;> cases D
        · exact take_ff_mid (some a) n c f t l w hft htn hbig HT a rfl hc
        · exact take_ft_mid (some a) n c f t l w hft htn hbig HT a rfl hc
        · exact take_tf_mid (some a) n c f t l w hft htn hbig HT a rfl hc
        · exact absurd rfl hl
end Go.Proofs.YtppefcnopkmhbaaGreatDoor

namespace Go.Proofs.YtppefcnopkmhbaaGreatDoor
open Go.RowKit

set_option maxRecDepth 8000
/-- the texts of edits -/
def tes (F : List Er) : List (Value × List UInt8) := F.flatMap fun r => [(.slice r.p1 r.o r.c1, r.O), (.slice r.p2 r.n r.c2, r.N)]
theorem tes_snoc (F : List Er) (r : Er) : tes (F ++ [r]) = tes F ++ [(.slice r.p1 r.o r.c1, r.O), (.slice r.p2 r.n r.c2, r.N)] := by simp [tes]
theorem tes_len (F : List Er) : (tes F).length = F.length * 2 := by
  induction F with
  | nil => rfl
  | cons r F ih => show (_ ++ tes F).length = _; rw [List.length_append, ih, List.length_cons]; simp; omega
theorem tes_at {F : List Er} {k : Nat} {r : Er} (h : F[k]? = some r) : (tes F)[k * 2]? = some (.slice r.p1 r.o r.c1, r.O) ∧ (tes F)[k * 2 + 1]? = some (.slice r.p2 r.n r.c2, r.N) := by
  induction F generalizing k with
  | nil => simp at h
  | cons x F ih =>
    cases k with
    | zero => simp at h; subst h; exact ⟨rfl, rfl⟩
    | succ k =>
      rw [List.getElem?_cons_succ] at h
      obtain ⟨h1, h2⟩ := ih h
      have e : ∀ j, (tes (x :: F))[(k + 1) * 2 + j]? = (tes F)[k * 2 + j]? := fun j => by
        show (_ ++ tes F)[(k + 1) * 2 + j]? = _
        rw [List.getElem?_append_right (by simp; omega)]
        congr 1; simp; omega
      exact ⟨(e 0).trans h1, (e 1).trans h2⟩
/-- edits of one's own, from lo on and below hi -/
structure Eds (W : World) (lo hi : Nat) (v : Value) (F : List Er) : Prop where
  row : W.ownsRow lo 65 3 v F.length (ecs F)
  up : ∀ g, v.ownBlock = some g → g < hi
  tx : ∀ (k : Nat) (x : Value × List UInt8), (tes F)[k]? = some x → Wb W lo hi x.1 x.2
  far : ∀ (i j : Nat) (x y : Value × List UInt8), i ≠ j → (tes F)[i]? = some x → (tes F)[j]? = some y → Far x.1 y.1
  big : ∀ r ∈ F, r.o ≤ 140737488355328 ∧ r.n ≤ 140737488355328
theorem Eds.nil (W : World) (lo hi : Nat) : Eds W lo hi (.slice none 0 0) [] :=
  ⟨⟨rfl, .inl ⟨rfl, rfl⟩⟩, (fun g hg => by cases hg), (fun k x h => by simp [tes] at h), (fun i j x y _ h => by simp [tes] at h), (fun r h => by simp at h)⟩
theorem Eds.keep {W W' : World} {lo hi : Nat} {v : Value} {F : List Er} (h : Eds W lo hi v F) (hb : Below W.heap.size W W') : Eds W' lo hi v F := ⟨own_keep h.row hb, h.up, fun k x hk => (h.tx k x hk).keep hb, h.far, h.big⟩
theorem Eds.wide {W : World} {lo hi lo' hi' : Nat} {v : Value} {F : List Er} (h : Eds W lo hi v F) (h1 : lo' ≤ lo) (h2 : hi ≤ hi') : Eds W lo' hi' v F := ⟨own_lower h.row h1, fun g hg => Nat.lt_of_lt_of_le (h.up g hg) h2, fun k x hk => (h.tx k x hk).wide h1 h2, h.far, h.big⟩
theorem Eds.et {W : World} {lo hi k : Nat} {v : Value} {F : List Er} {r : Er} (h : Eds W lo hi v F) (hk : F[k]? = some r) : Et W r := by
  obtain ⟨h1, h2⟩ := tes_at hk
  have b := h.big r (List.mem_of_getElem? hk)
  have t1 := h.tx _ _ h1
  have t2 := h.tx _ _ h2
  obtain ⟨_, _, e1⟩ := t1.shape
  obtain ⟨_, _, e2⟩ := t2.shape
  simp at e1 e2
  exact ⟨t1.tx (by dsimp only; omega), t2.tx (by dsimp only; omega), b.1, b.2⟩
theorem Eds.edz {W : World} {lo hi : Nat} {v : Value} {F : List Er} (h : Eds W lo hi v F) : ∃ ao c, v = .slice ao F.length c ∧ Edz W ao F ∧ (ao = none → c = 0) := by
  obtain ⟨ao, c, rfl, hE, -⟩ := own_edr h.row
  refine ⟨ao, c, rfl, ⟨hE, fun k r hk => h.et hk⟩, fun e => ?_⟩
  subst e
  rcases h.row.2 with ⟨e, _⟩ | ⟨g, cap, cur, e, _⟩
  · simp at e; exact e.2
  · simp at e
theorem own_same {W W' : World} {base e s n : Nat} {v : Value} {xs : List Value} (h : W.ownsRow base e s v n xs) (hb : ∀ g, v.ownBlock = some g → g < W.heap.size → W'.heap[g]? = W.heap[g]?) : W'.ownsRow base e s v n xs := by
  have hlt := h.lt
  refine ⟨h.1, ?_⟩
  rcases h.2 with h0 | ⟨g, cap, cur, rfl, h1, h2, h3⟩
  · exact .inl h0
  · exact .inr ⟨g, cap, cur, rfl, h1, by rw [hb g rfl (hlt g rfl).2]; exact h2, h3⟩
theorem Eds.grown {W W' : World} {lo hi B : Nat} {v : Value} {F : List Er} (h : Eds W lo hi v F) (hg : W.grownBy W' (some B)) (hB : B < lo ∨ hi ≤ B) : Eds W' lo hi v F :=
  ⟨own_same h.row (fun g h1 h2 => hg.block g h2 (fun e => by injection e with e; have := (h.row.lt g h1).1; have := h.up g h1; omega)), h.up, fun k x hk => (h.tx k x hk).grown hg hB, h.far, h.big⟩
/-- one edit -/
theorem Eds.one {W W' : World} {lo hi B c1 c2 : Nat} {p1 p2 : Option Addr} {a : Int} {O N : List UInt8} (h1 : Wb W lo hi (.slice p1 O.length c1) O) (h2 : Wb W lo hi (.slice p2 N.length c2) N) (hf : Far (.slice p1 O.length c1) (.slice p2 N.length c2)) (b1 : O.length ≤ 140737488355328) (b2 : N.length ≤ 140737488355328) (hB : hi ≤ B) (hlo : lo ≤ B) (hW : Below W.heap.size W W') (hK : Blk W' B 65 #[.int .i64 a, .slice p1 O.length c1, .slice p2 N.length c2]) :
    Eds W' lo (B + 1) (.slice (some ⟨B, 0, none⟩) 1 1) [⟨a, p1, O.length, c1, O, p2, N.length, c2, N⟩] := by
  refine ⟨⟨rfl, .inr ⟨B, 1, _, rfl, hlo, hK, Nat.le_refl _, by unfold maxLen; omega, rfl, rfl⟩⟩, (fun g hg => by have e : B = g := Option.some.inj hg; omega), fun k x hk => ?_, fun i j x y hij hi hj => ?_, fun r hr => ?_⟩
  · match k, hk with
    | 0, hk => simp [tes] at hk; subst hk; exact (h1.keep hW).wide (Nat.le_refl _) (by omega)
    | 1, hk => simp [tes] at hk; subst hk; exact (h2.keep hW).wide (Nat.le_refl _) (by omega)
    | k + 2, hk => simp [tes] at hk
  · match i, j, hi, hj with
    | 0, 0, _, _ => exact absurd rfl hij
    | 1, 1, _, _ => exact absurd rfl hij
    | 0, 1, hi, hj => simp [tes] at hi hj; subst hi hj; exact hf
    | 1, 0, hi, hj => simp [tes] at hi hj; subst hi hj; exact hf.symm
    | i + 2, _, hi, _ => simp [tes] at hi
    | _, j + 2, _, hj => simp [tes] at hj
  · simp at hr; subst hr; exact ⟨b1, b2⟩
/-- an effect, plain -/
structure Ef where
  es : List Ed
  cur : Int
  set : Bool
  lin : Bool
  txt : List UInt8
  how : Int
  typ : Bool
def ef0 : Ef := ⟨[], 0, false, false, [], 0, false⟩
def efV (v tv : Value) (x : Ef) : Value := .agg #[v, .int .i64 x.cur, .bool x.set, .bool x.lin, tv, .int .i64 x.how, .bool x.typ]
/-- an effect's memory -/
structure Efm (W : World) (lo hi : Nat) (v : Value) (F : List Er) (tv : Value) (T : List UInt8) : Prop where
  eds : Eds W lo hi v F
  tx : Wb W lo hi tv T
  far : ∀ (k : Nat) (x : Value × List UInt8), (tes F)[k]? = some x → Far tv x.1
theorem Efm.keep {W W' : World} {lo hi : Nat} {v tv : Value} {F : List Er} {T : List UInt8} (h : Efm W lo hi v F tv T) (hb : Below W.heap.size W W') : Efm W' lo hi v F tv T := ⟨h.eds.keep hb, h.tx.keep hb, h.far⟩
theorem Efm.wide {W : World} {lo hi lo' hi' : Nat} {v tv : Value} {F : List Er} {T : List UInt8} (h : Efm W lo hi v F tv T) (h1 : lo' ≤ lo) (h2 : hi ≤ hi') : Efm W lo' hi' v F tv T := ⟨h.eds.wide h1 h2, h.tx.wide h1 h2, h.far⟩
theorem Wb.far {W W' : World} {lo hi lo' hi' : Nat} {v u : Value} {l k : List UInt8} (h : Wb W lo hi v l) (h' : Wb W' lo' hi' u k) (hd : hi ≤ lo' ∨ hi' ≤ lo) : Far v u := fun g h1 h2 => by
  have a := h.up h1
  have b := h'.up h2
  omega
/-- a text, then edits -/
theorem Efm.two {W W' : World} {lo mi hi : Nat} {v tv : Value} {F : List Er} {T : List UInt8} (h1 : Wb W lo mi tv T) (hb : Below W.heap.size W W') (h2 : Eds W' mi hi v F) (hlm : lo ≤ mi) (hmh : mi ≤ hi) : Efm W' lo hi v F tv T :=
  ⟨h2.wide hlm (Nat.le_refl _), (h1.keep hb).wide (Nat.le_refl _) hmh, fun k x hk => h1.far (h2.tx k x hk) (.inl (Nat.le_refl _))⟩
theorem Efm.bare {W : World} {lo hi : Nat} {v : Value} {F : List Er} (h : Eds W lo hi v F) : Efm W lo hi v F (.slice none 0 0) [] := ⟨h, Wb.nil _ _ _, fun k x _ g hg => by cases hg⟩
theorem Efm.grown {W W' : World} {lo hi B : Nat} {v tv : Value} {F : List Er} {T : List UInt8} (h : Efm W lo hi v F tv T) (hg : W.grownBy W' (some B)) (hB : B < lo ∨ hi ≤ B) : Efm W' lo hi v F tv T := ⟨h.eds.grown hg hB, h.tx.grown hg hB, h.far⟩
/-- a call that answers an effect -/
def EfQ (x : Ef) (z : Int) (w : World) (e : Ending) (w' : World) : Prop := ∃ v F tv, e = .returned (.tuple #[efV v tv x, .int .i64 z]) ∧ F.map Er.d = x.es ∧ Efm w' w.heap.size w'.heap.size v F tv x.txt ∧ Below w.heap.size w w'
def efz : Value := .agg #[.slice none 0 0, .int .i64 0, .bool false, .bool false, .slice none 0 0, .int .i64 0, .bool false]
theorem EfQ.no {z : Int} {w w' : World} (hb : Below w.heap.size w w') : EfQ ef0 z w (.returned (.tuple #[efz, .int .i64 z])) w' := ⟨.slice none 0 0, [], .slice none 0 0, rfl, rfl, Efm.bare (Eds.nil _ _ _), hb⟩
/-- the edit that swap makes -/
def sw (l : List UInt8) (f t : Nat) (X : List UInt8) : List Ed := if sl l f t = X then [] else [⟨(f : Int), sl l f t, X⟩]
/-- a call that answers edits of its own, some of their texts made since the world w0 -/
def EsP (D : List Ed) (w0 : World) (e : Ending) (w' : World) : Prop := ∃ v F, e = .returned v ∧ F.map Er.d = D ∧ Eds w' w0.heap.size w'.heap.size v F ∧ Below w0.heap.size w0 w'
end Go.Proofs.YtppefcnopkmhbaaGreatDoor

namespace Go.Proofs.YtppefcnopkmhbaaGreatDoor
open Go.RowKit

set_option maxRecDepth 8000
theorem beq_of {a b : List UInt8} {z : Bool} (h : (a == b) = z) : (a = b ∧ z = true) ∨ (a ≠ b ∧ z = false) := by
  cases z with
  | true => exact .inl ⟨eq_of_beq h, rfl⟩
  | false => exact .inr ⟨fun e => by subst e; simp at h, rfl⟩
theorem sl_lh' {w : World} {ua : Option Addr} {n c a b : Nat} {u : List UInt8} (h : Tx w ua n c u) (h1 : a ≤ b) (h2 : b ≤ n) : ∃ a' c', (∀ W, (Instr.sliceAt 22 (.slice ua n c) (some (.int .i64 (a : Int))) (some (.int .i64 (b : Int))) none).run Tryz.prog W = .ok (.slice a' (b - a) c') W) ∧ Tx w a' (b - a) c' (sl u a b) := by
  obtain ⟨a', c', h3, h4⟩ := sl_lh h (lo := a) (m := b - a) (by omega)
  rw [show (a : Int) + ((b - a : Nat) : Int) = (b : Int) by omega] at h3
  exact ⟨a', c', h3, h4⟩
set_option maxHeartbeats 4000000 in
theorem swap_any (w0 : World) (ao : Option Addr) (n c f t : Nat) (l : List UInt8) (xp : Option Addr) (xn xc : Nat) (X : List UInt8) (w : World) (HT : Hid (Tx w ao n c l)) (hft : f ≤ t) (ht : t ≤ n) (hn : n ≤ 140737488355328) (hB : Hid (Below w0.heap.size w0 w)) (HX : Hid (Wb w w0.heap.size w.heap.size (.slice xp xn xc) X)) (hX : X.length ≤ 140737488355328) :
    Calls Tryz.prog 83 #[.slice ao n c, .int .i64 (f : Int), .int .i64 (t : Int), .slice xp xn xc] w fun e w' => EsP (sw l f t X) w0 e w' := by
  have hlen := HT.out.len
  obtain ⟨a3, c3, hs3, hT3⟩ := sl_lh' HT.out hft ht
  have hXl : xn = X.length := by obtain ⟨_, _, e⟩ := HX.out.shape; simp at e; exact e.2.1
  subst hXl
  have hTX := HX.out.tx (by omega)
  have C1 := equal_any a3 (t - f) c3 (sl l f t) xp X.length xc X w hT3 hTX
  have hsl : (sl l f t).length = t - f := sl_len (by omega)
  have h1 : (0 : Int) ≤ (f : Int) := by omega
  have h2 : (f : Int) ≤ (t : Int) := by omega
  have h3 : (t : Int) ≤ (n : Int) := by omega
  have hcap := HT.out.cap
  have h4 : (t : Int) ≤ (c : Int) := by omega
  unfold sw
  rcases beq_of (rfl : (sl l f t == X) = _) with ⟨e, he⟩ | ⟨e, he⟩
  · rw [if_pos e]
    rw [he] at C1
    have C := Hid.mk' C1
    clear C1 he hTX hT3 HX HT
    go_enter Tryz.func83, Tryz.ntmps83
    go_wp2_with (first | (go_at_call 79; refine C.out.mono ?_; rintro e w' ⟨rfl, hw⟩; subst hw) | fail)
    go_ret
    exact ⟨.slice none 0 0, [], rfl, rfl, Eds.nil _ _ _, hB.out⟩
  · rw [if_neg e]
    rw [he] at C1
    have C := Hid.mk' C1
    have C2 := Hid.mk' (cloneW_any a3 (t - f) c3 (sl l f t) w (by omega) hT3)
    have HSL := Hid.mk' hsl
    have HNE := Hid.mk' e
    have HF := Hid.mk' (show (sl l f t).length ≤ 140737488355328 by omega)
    clear C1 he hTX hT3 HT hsl e hlen
    go_enter Tryz.func83, Tryz.ntmps83
    go_wp2_with (first | (go_at_call 79; refine C.out.mono ?_; rintro e w' ⟨rfl, hw⟩; have hq := hw.symm; subst hq; clear hw) | (go_at_call 46; refine C2.out.mono ?_; rintro e w2 ⟨v2, rfl, hW2, hB2⟩; have O2 := Hid.mk' hW2; have B2 := Hid.mk' hB2; obtain ⟨p2, c2, rfl⟩ := hW2.shape; clear hW2 hB2) | fail)
    go_ret
    have O9 := O2.out
    have hb3 := bAlloc (Below.refl w2.heap.size w2) (.cells #[.int .i64 (f : Int), .slice p2 (sl l f t).length c2, .slice xp X.length xc] 65)
    have hs2 := B2.out.size
    have hs0 := hB.out.size
    refine ⟨_, [⟨(f : Int), p2, (sl l f t).length, c2, sl l f t, xp, X.length, xc, X⟩], rfl, rfl, ?_, bT hB.out (bT B2.out hb3)⟩
    rw [World.size_alloc]
    exact Eds.one (lo := w0.heap.size) (hi := w2.heap.size) (O9.wide hs0 (Nat.le_refl _)) ((HX.out.keep B2.out).wide (Nat.le_refl _) hs2) ((O9.far HX.out (.inr (Nat.le_refl _)))) HF.out hX (Nat.le_refl _) (Nat.le_trans hs0 hs2) hb3 (Blk.new w2 65 _)
/-- Apply, either way -/
def apU (T : List UInt8) (D : List Ed) : List UInt8 := (app T D).getD []
def apE (T : List UInt8) (D : List Ed) : Int := if (app T D).isSome then 0 else 170
def TxQ (U : List UInt8) (z : Int) (w : World) (e : Ending) (w' : World) : Prop := ∃ v, e = .returned (.tuple #[v, .int .i64 z]) ∧ w'.ownsRow w.heap.size 5 1 v U.length (bv U) ∧ Below w.heap.size w w'
theorem apply_q (ao : Option Addr) (n c : Nat) (T : List UInt8) (eo : Option Addr) (en ec : Nat) (E : List Er) (w : World) (hT : Hid (Tx w ao n c T)) (hb : n ≤ 140737488355328) (HE : Hid (Edz w eo E)) (hn : E.length = en) (heb : en ≤ 140737488355328) {D : List Ed} (hD : E.map Er.d = D) (HM : Mod T D) : Calls Tryz.prog 58 #[.slice ao n c, .slice eo en ec] w fun e w' => TxQ (apU T D) (apE T D) w e w' := by
  subst hD
  refine (apply_any ao n c T eo en ec E w hT hb HE hn heb HM).mono ?_
  rintro e w' (⟨U, v, h1, rfl, h2, h3⟩ | ⟨h1, rfl, h3⟩)
  · exact ⟨v, by unfold apE; rw [h1]; rfl, by unfold apU; rw [h1]; exact h2, h3⟩
  · exact ⟨.slice none 0 0, by unfold apE; rw [h1]; rfl, by unfold apU; rw [h1]; exact ⟨rfl, .inl ⟨rfl, rfl⟩⟩, h3⟩
theorem apU_le {T : List UInt8} {D : List Ed} (h : Mod T D) : (apU T D).length ≤ 140737488355328 := by
  unfold apU
  cases hz : app T D with
  | none => simp
  | some U => exact h D.length U (by rw [List.take_length]; exact hz)
/-- the first byte that isn't blank of a line of the text behind the edits, or of its last line -/
def fbh (l : List UInt8) (D : List Ed) (i : Nat) : Int := (aFirst (apU l D) (min (i : Int) (nl (apU l D) : Int))).1
set_option maxHeartbeats 2000000 in
theorem firstBehind_any (ao : Option Addr) (n c : Nat) (l : List UInt8) (eo : Option Addr) (en ec i : Nat) (E : List Er) (w : World) (HT : Hid (Tx w ao n c l)) (hb : n ≤ 140737488355328) (HE : Hid (Edz w eo E)) (hn : E.length = en) (heb : en ≤ 140737488355328) {D : List Ed} (hD : E.map Er.d = D) (HM : Hid (Mod l D)) (hi : (i : Int) ≤ 9223372036854775807) :
    Calls Tryz.prog 84 #[.slice ao n c, .slice eo en ec, .int .i64 (i : Int)] w fun e w' => e = .returned (.int .i64 (fbh l D i)) ∧ Below w.heap.size w w' := by
  have C1 := Hid.mk' (apply_q ao n c l eo en ec E w HT hb HE hn heb hD HM.out)
  have hul := apU_le HM.out
  have HUL := Hid.mk' hul
  have HFB : Hid (fbh l D i = (aFirst (apU l D) (min (i : Int) (nl (apU l D) : Int))).1) := rfl
  generalize fbh l D i = r at *
  generalize apU l D = U at *
  generalize apE l D = z at *
  have hnl := nl_le U
  obtain ⟨m, hm⟩ : ∃ m : Nat, min (i : Int) (nl U : Int) = (m : Int) := ⟨min i (nl U), by omega⟩
  have HM2 := Hid.mk' hm
  rw [hm] at HFB
  have hmn : min (i : Int) ((nl U : Nat) : Int) = (m : Int) := hm
  have hw1 : wrap64 (nl U : Int) = (nl U : Int) := by unfold wrap64; omega
  have hmle : (m : Int) ≤ 9223372036854775807 := by omega
  have C3 : Hid (∀ W ao' c', Tx W ao' U.length c' U → Calls Tryz.prog 93 #[.slice ao' U.length c', .int .i64 (m : Int)] W fun e w' => ∃ q : Int, e = .returned (.tuple #[.int .i64 r, .int .i64 q]) ∧ w' = W) := fun W ao' c' h => by
    refine (lfirst_any ao' U.length c' m U W hmle h).mono ?_
    rintro e w' ⟨rfl, rfl⟩
    exact ⟨(aFirst U (m : Int)).2, by unfold pr; rw [HFB.out], rfl⟩
  have C2 : Hid (∀ W ao' c', Tx W ao' U.length c' U → Calls Tryz.prog 90 #[.slice ao' U.length c'] W fun e w' => e = .returned (.int .i64 ((nl U : Int) + 1)) ∧ Below W.heap.size W w') := fun W ao' c' h => count_any ao' U.length c' U W h
  clear HT HE HM hD hm hn HFB hul
  go_enter Tryz.func84, Tryz.ntmps84
  go_wp2_with fail
  refine C1.out.mono ?_
  rintro e w1 ⟨v, rfl, hO, hB1⟩
  obtain ⟨uo, uc, rfl, hTU⟩ := own_tx hO (by have := HUL.out; omega)
  have KT := Hid.mk' hTU
  have B1 := Hid.mk' hB1
  clear hO hTU hB1 C1
  dsimp only
  go_wp2_with fail
  refine (C2.out w1 uo uc KT.out).mono ?_
  rintro e w2 ⟨rfl, hB2⟩
  have B2 := Hid.mk' (bT B1.out hB2)
  have KT2 := Hid.mk' (KT.out.keep hB2)
  clear hB2 C2 KT B1
  dsimp only
  go_wp2_with fail
  refine (C3.out w2 uo uc KT2.out).mono ?_
  rintro e w3 ⟨q, rfl, hw3⟩
  have hq := hw3.symm
  subst hq
  clear hw3 C3
  dsimp only
  go_wp2
  go_ret
  exact ⟨rfl, B2.out⟩
end Go.Proofs.YtppefcnopkmhbaaGreatDoor
