/- ObjectSelects walked: every Select is the document's, and the text stays as it is. -/
import Derived.Test.YtgdhdegmjljbfaaSno
import Derived.Test.YtgdhdegmjljbfaaRsq
import Derived.Test.YtgdhdegmjljbfaaRsb
import Derived.Test.YtgdhdegmjljbfaaRsw
import Derived.Test.YtgdhdegmjljbfaaRsp
namespace Go.Proofs.Ytgdhdegmjljbfaa
open Go.RowKit
set_option maxRecDepth 100000 in
set_option maxHeartbeats 800000 in
theorem lent_any (ao : Option Addr) (n c : Nat) (l : List UInt8) (w : World) (hbig : n ≤ 140737488351232) (HT : Hid (Tx w ao n c l)) :
    Calls Try.prog 8 #[.slice ao n c] w fun e w' => ∃ g cap, e = .returned (.slice (some ⟨g, 0, none⟩) n cap) ∧ w'.ownsRow w.heap.size 5 1 (.slice (some ⟨g, 0, none⟩) (n + 2) cap) (n + 2) (bv l ++ mk2) ∧ Below w.heap.size w w' := by
  obtain ⟨i0, hi, hz0, hz1, hz2⟩ := info_parts info5
  have hlen := Hid.mk' HT.out.len
  go_enter Try.func8, Try.ntmps8
  go_wp2_with (at_builtin; refine append_srv rfl (.tmp 3) (.tmp 4) 22 rfl w.heap.size 5 i0 (.int .u8 0) 1 1 Try.underlying22 hi hz0 hz1 hz2 rfl (by decide) (.slice (some ⟨w.heap.size, 0, none⟩) 0 0) 0 [] rfl (World.ownsRow_made w #[] 0 (Nat.le_refl _) (Nat.zero_le _) rfl) (.slice ao n c) n (bv l) rfl ?qc2 ?qc1 ?qc3 ?qc4 ?qc5 ?qc6 ?_)
  case qc1 => rw [bv_length, hlen.out]; omega
  case qc2 => exact (HT.out.keep (bAlloc (Below.refl _ _) _)).srv
  case qc3 => exact bv_one l
  case qc4 => unfold maxLen; omega
  case qc5 => omega
  case qc6 => simp
  intro v1 w1 hown hgrow _
  have HW1 : Hid (w1.ownsRow w.heap.size 5 1 v1 n (bv l)) := by unfold Hid; simpa using hown
  have L1 : Hid (Below w.heap.size w w1) := ((Below.refl _ w).alloc (Nat.le_refl _) _).grown hgrow (by simp) (by intro k hk; simp [Value.ownBlock] at hk; omega)
  clear hown hgrow
  go_wp2_with (at_builtin; refine append_srv rfl (.tmp 5) (.tmp 6) 22 rfl w.heap.size 5 i0 (.int .u8 0) 1 1 Try.underlying22 hi hz0 hz1 hz2 rfl (by decide) v1 n (bv l) rfl (HW1.out.alloc _) (.slice (some ⟨w1.heap.size, 0, none⟩) 2 2) 2 [.int .u8 77, .int .u8 78] rfl (.inr ⟨⟨w1.heap.size, 0, none⟩, 2, rfl, fun k u hk => lit_cells w1 _ 5 k u hk⟩) rfl ?qd3 ?qd4 ?qd5 ?qd6 ?_)
  case qd3 => intro u hu; simp at hu; rcases hu with rfl | rfl <;> rfl
  case qd4 => unfold maxLen; omega
  case qd5 => omega
  case qd6 => have := L1.out.size; simp; omega
  intro v2 w2 hown hgrow _
  have L2 : Hid (Below w.heap.size w w2) := (bAlloc L1.out _).grown hgrow (by have := L1.out.size; simp; omega) (fun k hk => (HW1.out.lt k hk).1)
  obtain ⟨g, cap, rfl, hc1, hc2⟩ := own_some hown (by omega)
  have HW2 : Hid (w2.ownsRow w.heap.size 5 1 (.slice (some ⟨g, 0, none⟩) (n + 2) cap) (n + 2) (bv l ++ mk2)) := hown
  have hx0 : (0 : Int) ≤ (n : Int) := by omega
  have hx1 : (n : Int) ≤ (cap : Int) := by omega
  have hx2 : ¬ cap = 0 := by omega
  clear hown hgrow hc2
  go_wp2
  go_ret
  exact ⟨_, _, rfl, HW2.out, L2.out⟩

set_option maxRecDepth 100000 in
set_option maxHeartbeats 800000 in
theorem whole_any (g cap : Nat) (ao : Option Addr) (n c base : Nat) (l : List UInt8) (w : World) (hbig : n ≤ 140737488351232) (HT : Hid (Tx w ao n c l)) (hW : Hid (w.ownsRow base 5 1 (.slice (some ⟨g, 0, none⟩) (n + 2) cap) (n + 2) (bv l ++ mk2))) :
    Calls Try.prog 11 #[.slice (some ⟨g, 0, none⟩) n cap, .slice ao n c] w fun e w' => e = .returned (.bool true) ∧ w' = w := by
  have hl := HT.out.len
  obtain ⟨g', cap', hv, hc1, hc2⟩ := own_some hW.out (by omega)
  have hcap : n + 2 ≤ cap := by simp at hv; omega
  have v1 := conv_tx (lent_tx hl (by omega) hW.out)
  have v2 := conv_tx HT.out
  have q0 : w.cell? ⟨g, n, none⟩ = some (.int .u8 77) := by
    rw [hW.out.cellAt n (by omega), List.getElem?_append_right (by rw [bv_length]; omega), bv_length, hl]; simp [mk2]
  have q1 : w.cell? ⟨g, n + 1, none⟩ = some (.int .u8 78) := by
    rw [hW.out.cellAt (n + 1) (by omega), List.getElem?_append_right (by rw [bv_length]; omega), bv_length, hl]; simp [mk2]
  have x0 : (0 : Int) ≤ (n : Int) + 2 := by omega
  have x1 : (n : Int) + 2 ≤ (cap : Int) := by omega
  have x2 : ¬ cap = 0 := by omega
  have x3 : (n : Int) ≤ 140737488351232 := by omega
  clear hv hc1 hc2 hl
  go_enter Try.func11, Try.ntmps11
  go_wp2
  go_ret
  exact ⟨rfl, rfl⟩
/-- question number t of a list -/
structure Qn where
  at' : Int
  cnt : Int
  key : ByteArray
/-- The value '.slice bo m d' reads as m questions. -/
structure Qs (w : World) (bo : Option Addr) (m : Nat) (A : Nat → Qn) : Prop where
  big : m ≤ 140737488355328
  cells : ∀ t, t < m → ∃ g o, bo = some ⟨g, o, none⟩ ∧ w.cell? ⟨g, o + t * 3, none⟩ = some (.int .i64 (A t).at') ∧ w.cell? ⟨g, o + t * 3 + 1, none⟩ = some (.int .i64 (A t).cnt) ∧ w.cell? ⟨g, o + t * 3 + 2, none⟩ = some (.string (A t).key)
theorem Qs.keep {w w' : World} {bo : Option Addr} {m : Nat} {A : Nat → Qn} (h : Qs w bo m A) (hb : Below w.heap.size w w') : Qs w' bo m A :=
  ⟨h.big, fun t ht => by
    obtain ⟨g, o, h0, h1, h2, h3⟩ := h.cells t ht
    exact ⟨g, o, h0, keepC hb h1, keepC hb h2, keepC hb h3⟩⟩
theorem two_bytes {s : ByteArray} (h : s.size = 2) : ∃ x y, s = ⟨#[x, y]⟩ := by
  obtain ⟨⟨l⟩⟩ := s
  have h : l.length = 2 := h
  match l, h with
  | [x, y], _ => exact ⟨x, y, rfl⟩
theorem both_any (n : Nat) (l : List UInt8) (hn : n ≤ 4398046511103) (i cnt : Int) (s : ByteArray) : ∃ F T K E : Int,
    (∀ ao c W, Tx W ao n c l → Calls Try.prog 9 #[.slice ao n c, .int .i64 i, .int .i64 cnt, .string s] W fun e w' => e = tg F T K E ∧ Below W.heap.size W w') ∧
    (∀ ao c W, Tx W ao n c l → Calls Try.prog 10 #[.slice ao n c, .int .i64 i, .int .i64 cnt, .string s] W fun e w' => e = tg F T K E ∧ Below W.heap.size W w') := by
  by_cases hno : No n i cnt s
  · exact ⟨0, 0, 0, 2, fun ao c W h => rselect_no ao n c i cnt s l W hno h, fun ao c W _ => select_no ao n c i cnt s W hno⟩
  · have h0 : 0 ≤ i := by apply Classical.byContradiction; intro h; exact hno (.inl (by omega))
    have h1 : i ≤ n := by apply Classical.byContradiction; intro h; exact hno (.inr (.inl ⟨h0, by omega⟩))
    have h2 : 1 ≤ cnt := by apply Classical.byContradiction; intro h; exact hno (.inr (.inr (.inl ⟨h0, h1, by omega⟩)))
    have h3 : cnt ≤ 9999 := by apply Classical.byContradiction; intro h; exact hno (.inr (.inr (.inr (.inl ⟨h0, h1, h2, by omega⟩))))
    have h4 : ¬ Bad s := fun h => hno (.inr (.inr (.inr (.inr ⟨h0, h1, h2, h3, h⟩))))
    obtain ⟨k, rfl⟩ := Int.eq_ofNat_of_zero_le h0
    obtain ⟨C, rfl⟩ := Int.eq_ofNat_of_zero_le (show 0 ≤ cnt by omega)
    have hs : s.size = 2 := by apply Classical.byContradiction; intro h; exact h4 (.inl h)
    obtain ⟨x, y, rfl⟩ := two_bytes hs
    have hx : (x.toNat : Int) = 105 ∨ (x.toNat : Int) = 97 := by
      apply Classical.byContradiction; intro h
      exact h4 (.inr ⟨x, y, rfl, .inl ⟨fun e => h (.inl e), fun e => h (.inr e)⟩⟩)
    have hy : y ∈ srt := by
      apply Classical.byContradiction; intro h
      exact h4 (.inr ⟨x, y, rfl, .inr ⟨hx, h⟩⟩)
    have hky : ky x y = true := by
      unfold ky
      rw [decide_eq_true hy]
      rcases hx with h | h
      · rw [decide_eq_true h]; rfl
      · rw [decide_eq_true h, Bool.or_true]; rfl
    have hS : isS (y.toNat : Int) := by
      unfold srt at hy
      simp only [List.mem_cons, List.not_mem_nil, or_false] at hy
      unfold isS isB
      rcases hy with rfl | rfl | rfl | rfl | rfl | rfl | rfl | rfl | rfl | rfl | rfl | rfl | rfl | rfl <;> decide
    have hk : k ≤ n := by omega
    have hC1 : 1 ≤ C := by omega
    have hC2 : C ≤ 9999 := by omega
    refine ⟨_, _, _, _, ?_, fun ao c W h => by rw [← sel_s4]; exact select_yes ao n c k C x y _ l W hn hk hC1 hC2 hky rfl hS h⟩
    intro ao c W h
    rw [← sel_s4]
    rcases hS with hS | hS | hS | hS | hS
    · rw [sel_sr _ _ _ _ _ (by omega), hS]
      exact rselect_w ao n c k C x y _ l W hn hk hC1 hC2 hx rfl false hS h
    · rw [sel_sr _ _ _ _ _ (by omega), hS]
      exact rselect_w ao n c k C x y _ l W hn hk hC1 hC2 hx rfl true hS h
    · have := rselect_p ao n c k C x y _ l W hn hk hC1 hC2 hx rfl hS h
      rw [hS]
      exact this
    · have e : bnd l k C (y.toNat : Int) ((x.toNat : Int) == 97) = qx l (y.toNat : Int) k ((x.toNat : Int) == 97) := by unfold bnd; rw [if_neg (by omega), if_neg (by omega), if_neg (by omega), if_pos hS]
      rw [sel_sr _ _ _ _ _ (by omega), e]
      exact rselect_q ao n c k C x y _ l W hn hk hC1 hC2 hx rfl hS h
    · have hB := hS
      unfold isB at hB
      have e : bnd l k C (y.toNat : Int) ((x.toNat : Int) == 97) = bx l (y.toNat : Int) k C ((x.toNat : Int) == 97) := by unfold bnd; rw [if_neg (by omega), if_neg (by omega), if_neg (by omega), if_neg (by omega)]
      rw [sel_sr _ _ _ _ _ (by omega), e]
      exact rselect_b ao n c k C x y _ l W hn hk hC1 hC2 hx rfl hS h
set_option maxRecDepth 8000 in
set_option maxHeartbeats 8000000 in
theorem objectSelects_walk (ao : Option Addr) (n c : Nat) (l : List UInt8) (bo : Option Addr) (m d : Nat) (A : Nat → Qn) (w : World) (HT : Hid (Tx w ao n c l)) (HQ : Hid (Qs w bo m A)) :
    Calls Try.prog 3 #[.slice ao n c, .slice bo m d] w fun e w' => e = .returned (.bool true) ∧ Below w.heap.size w w' := by
  have hlen := Hid.mk' HT.out.len
  go_enter Try.func3, Try.ntmps3
  go_wp2_with fail
  refine (awake_any _).mono ?_
  rintro e w0 ⟨rfl, hb0⟩
  have B0 := Hid.mk' hb0
  clear hb0
  by_cases hgr : 16384 < n
  · have hg1 : (16384 : Int) < (n : Int) := by omega
    go_wp2
    all_goals go_ret
    all_goals exact ⟨rfl, B0.out⟩
  have hg1 : ¬ ((16384 : Int) < (n : Int)) := by omega
  by_cases hgm : 1024 < m
  · have hg2 : (1024 : Int) < (m : Int) := by omega
    go_wp2
    all_goals go_ret
    all_goals exact ⟨rfl, B0.out⟩
  have hg2 : ¬ ((1024 : Int) < (m : Int)) := by omega
  have hn : n ≤ 16384 := by omega
  have hm : m ≤ 1024 := by omega
  go_wp2_with fail
  refine (lent_any ao n c l _ (by omega) (Hid.mk' (HT.out.keep B0.out))).mono ?_
  rintro e w1 ⟨g, cap, rfl, hO, hb1⟩
  have HO := Hid.mk' hO
  have B1 := Hid.mk' (bT B0.out hb1)
  clear hO hb1 B0
  go_wp2_with fail
  go_loopg [26] m (fun k u wx => ∃ i : Nat, u = .int .i64 i ∧ i + k = m ∧ Hid (Below w1.heap.size w1 wx))
  case atStart => exact ⟨0, rfl, by omega, Below.refl _ _⟩
  case round =>
    obtain ⟨i, rfl, hi, HB⟩ := hrel
    have BW := Hid.mk' (bT B1.out HB.out)
    have TR := Hid.mk' (HT.out.keep BW.out)
    have OR := Hid.mk' (own_keep HO.out HB.out)
    have TI := Hid.mk' (lent_tx hlen.out (by omega) OR.out)
    have hi0 : (0 : Int) ≤ (i : Int) := by omega
    have hib : (i : Int) ≤ 16384 := by omega
    cases gk with
    | succ k =>
      obtain ⟨gq, oq, rfl, c0, c1, c2⟩ := (HQ.out.keep BW.out).cells i (by omega)
      generalize A i = a at *
      obtain ⟨a0, a1, a2⟩ := a
      dsimp only at c0 c1 c2
      have him : (i : Int) < (m : Int) := by omega
      obtain ⟨x0, x1, x2, x3, hR, hS⟩ := both_any n l (by omega) a0 a1 a2
      have HR := Hid.mk' hR
      have HS := Hid.mk' hS
      unfold tg at HR HS
      clear hR hS
      go_wp2_with fail
      refine (HR.out ao c _ (TR.out.keep (bAlloc (Below.refl _ _) _))).mono ?_
      rintro e w2 ⟨rfl, hb2⟩
      have KB := Hid.mk' ((Blk.new wr 27 #[.int .i64 a0, .int .i64 a1, .string a2]).keep hb2)
      have d0 : w2.cell? ⟨wr.heap.size, 0, none⟩ = some (.int .i64 a0) := KB.out.cell rfl
      have d1 : w2.cell? ⟨wr.heap.size, 1, none⟩ = some (.int .i64 a1) := KB.out.cell rfl
      have d2 : w2.cell? ⟨wr.heap.size, 2, none⟩ = some (.string a2) := KB.out.cell rfl
      have hz2 := KB.out.lt
      have B2 := Hid.mk' (bT (bAlloc (Below.refl wr.heap.size wr) _) hb2)
      clear hb2 c0 c1 c2
      go_wp2_with fail
      refine (HS.out (some ⟨g, 0, none⟩) cap _ (TI.out.keep (bAlloc B2.out _))).mono ?_
      rintro e w3 ⟨rfl, hb3⟩
      have MB := Hid.mk' ((Blk.new w2 29 #[.int .i64 x0, .int .i64 x1, .int .i64 x2]).keep hb3)
      have e0 : w3.cell? ⟨w2.heap.size, 0, none⟩ = some (.int .i64 x0) := MB.out.cell rfl
      have e1 : w3.cell? ⟨w2.heap.size, 1, none⟩ = some (.int .i64 x1) := MB.out.cell rfl
      have e2 : w3.cell? ⟨w2.heap.size, 2, none⟩ = some (.int .i64 x2) := MB.out.cell rfl
      have hz3 := MB.out.lt
      have B3 := Hid.mk' (bT (bAlloc B2.out _) hb3)
      clear hb3 d0 d1 d2
      go_wp2
      go_roundg k
      case measure => omega
      case rel => exact ⟨i + 1, by go_num, by omega, bT HB.out (bAlloc B3.out _)⟩
    | zero =>
      have him : ¬ ((i : Int) < (m : Int)) := by omega
      go_wp2_with fail
      refine (whole_any g cap ao n c _ l _ (by omega) TR OR).mono ?_
      rintro e w9 ⟨rfl, hw⟩
      have hqq := hw.symm
      subst hqq
      clear hw
      go_wp2
      go_ret
      exact ⟨rfl, BW.out⟩
end Go.Proofs.Ytgdhdegmjljbfaa
