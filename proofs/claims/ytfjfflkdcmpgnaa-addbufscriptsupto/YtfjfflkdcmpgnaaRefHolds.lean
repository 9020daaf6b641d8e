/- The contracts of quoinref01.Holds and quoinref01.Read, over two lists that the caller owns. -/
import Derived.Test.YtfjfflkdcmpgnaaStaysKit
namespace Go.Proofs.Ytfjfflkdcmpgnaa
open Go.RowKit

theorem refSound_true (s o l : Int) (w : World) (hs : sndB s o l = true) :
    Calls Try.prog 35 #[.agg #[.int .i64 s, .int .i64 o, .int .i64 l]] w fun e w' => e = .returned (.bool true) ∧ w' = w.alloc (.cells #[.int .i64 s, .int .i64 o, .int .i64 l] 33) := by
  have ba := snd_bd hs
  have h := refSound_any s o l w (by omega) (by omega)
  rwa [hs] at h
theorem refSound_false (s o l : Int) (w : World) (h1 : -9223372036854775808 ≤ o) (h2 : o ≤ 9223372036854775807) (hs : sndB s o l = false) :
    Calls Try.prog 35 #[.agg #[.int .i64 s, .int .i64 o, .int .i64 l]] w fun e w' => e = .returned (.bool false) ∧ w' = w.alloc (.cells #[.int .i64 s, .int .i64 o, .int .i64 l] 33) := by
  have h := refSound_any s o l w h1 h2
  rwa [hs] at h
theorem snd_src' {s o l : Int} (h : sndB s o l = true) : s = 0 ∨ s = 1 := by
  unfold sndB at h; exact (of_decide_eq_true h).1

set_option maxHeartbeats 400000 in
theorem refHolds_any (a0 a1 : Option Addr) (c0 c1 : Nat) (O A : List UInt8) (s o l : Int) (w : World) (h1 : -9223372036854775808 ≤ o) (h2 : o ≤ 9223372036854775807) :
    Calls Try.prog 32 #[.slice a0 O.length c0, .slice a1 A.length c1, .agg #[.int .i64 s, .int .i64 o, .int .i64 l]] w fun e w' => e = .returned (.bool (hdB s o l O A)) ∧ Below w.heap.size w w' := by
  unfold hdB
  cases hs : sndB s o l with
  | false =>
    go_enter Try.func32, Try.ntmps32
    go_wp2_with (go_at_call 35; refine (refSound_false s o l _ h1 h2 hs).mono ?_; rintro e w' ⟨rfl, rfl⟩)
    go_ret
    exact ⟨by simp, bAlloc (bAlloc (Below.refl _ _) _) _⟩
  | true =>
    have bd := snd_bd hs
    rcases snd_src' hs with rfl | rfl
    · have e0 : which 0 O A = O := by simp [which]
      rw [e0]
      clear e0
      go_enter Try.func32, Try.ntmps32
      go_wp2_with (go_at_call 35; refine (refSound_true _ o l _ hs).mono ?_; rintro e w' ⟨rfl, rfl⟩)
      go_ret
      exact ⟨by simp, bAlloc (bAlloc (Below.refl _ _) _) _⟩
    · have e0 : which 1 O A = A := by simp [which]
      rw [e0]
      clear e0
      go_enter Try.func32, Try.ntmps32
      go_wp2_with (go_at_call 35; refine (refSound_true _ o l _ hs).mono ?_; rintro e w' ⟨rfl, rfl⟩)
      go_ret
      exact ⟨by simp, bAlloc (bAlloc (Below.refl _ _) _) _⟩

set_option maxHeartbeats 400000 in
theorem refRead_no (a0 a1 : Option Addr) (c0 c1 : Nat) (O A : List UInt8) (s o l : Int) (w : World) (h1 : -9223372036854775808 ≤ o) (h2 : o ≤ 9223372036854775807) (hd : hdB s o l O A = false) :
    Calls Try.prog 26 #[.slice a0 O.length c0, .slice a1 A.length c1, .agg #[.int .i64 s, .int .i64 o, .int .i64 l]] w fun e w' => e = .returned (.tuple #[.slice none 0 0, .int .i64 10]) ∧ Below w.heap.size w w' := by
  go_enter Try.func26, Try.ntmps26
  go_wp2_with fail
  refine (refHolds_any a0 a1 c0 c1 O A s o l _ h1 h2).mono ?_
  rw [hd]
  rintro e w1 ⟨rfl, hb⟩
  go_wp2
  go_ret2
  exact ⟨rfl, (bAlloc (Below.refl _ _) _).trans (hb.mono (by simp))⟩

/-- the source of the reference's append: a part of an owned list -/
theorem cut_src {W : World} {base g c o l : Nat} {L : List UInt8} (h : W.ownsRow base 5 1 (.slice (some ⟨g, 0, none⟩) L.length c) L.length (bv L)) (hh : o + l ≤ L.length) :
    ∀ j u, (bv ((L.drop o).take l))[j]? = some u → W.cell? ((⟨g, o, none⟩ : Addr).add j) = some u := by
  intro j u hu
  have e : ((L.drop o).take l).length = l := by simp; omega
  have hj : j < l := by
    have := (List.getElem?_eq_some_iff.1 hu).1
    rw [bv_length, e] at this; exact this
  have hadd : (⟨g, o, none⟩ : Addr).add j = ⟨g, o + j, none⟩ := by unfold Addr.add; split <;> simp_all
  rw [hadd, h.cellAt (o + j) (by omega), ← hu]
  simp [bv, hj]

set_option maxRecDepth 100000 in
set_option maxHeartbeats 400000 in
theorem refRead_nil0 (a1 : Option Addr) (c1 : Nat) (A : List UInt8) (w : World) :
    Calls Try.prog 26 #[.slice none 0 0, .slice a1 A.length c1, .agg #[.int .i64 0, .int .i64 0, .int .i64 0]] w fun e w' => e = .returned (.tuple #[.slice none 0 0, .int .i64 0]) ∧ Below w.heap.size w w' := by
  have hd : hdB 0 0 0 [] A = true := by unfold hdB; rw [show sndB 0 0 0 = true from by decide]; simp
  obtain ⟨i0, hi, hz0, hz1, hz2⟩ := info_parts info5
  go_enter Try.func26, Try.ntmps26
  go_wp2_with fail
  refine (refHolds_any none a1 0 c1 [] A 0 0 0 _ (by omega) (by omega)).mono ?_
  rw [hd]
  rintro e w1 ⟨rfl, hb⟩
  have S1 := (SpanAt.new w 0 0 0).keep hb
  have L1 : Below w.heap.size w w1 := (bAlloc (Below.refl _ _) _).trans (hb.mono (by simp))
  clear hb hd hz0 hz1 hz2
  obtain ⟨az, x0, x1, x2, -⟩ := id S1
  go_wp2_with (at_builtin; refine wpList_append_own_none rfl (.tmp 28) (.tmp 37) 22 rfl w.heap.size 5 i0 1 Try.underlying22 hi (.slice none 0 0) 0 [] rfl (World.ownsRow_nil _ _ _ _) rfl ?_)
  go_ret2
  exact ⟨rfl, L1⟩

set_option maxRecDepth 100000 in
set_option maxHeartbeats 400000 in
theorem refRead_nil1 (a0 : Option Addr) (c0 : Nat) (O : List UInt8) (w : World) :
    Calls Try.prog 26 #[.slice a0 O.length c0, .slice none 0 0, .agg #[.int .i64 1, .int .i64 0, .int .i64 0]] w fun e w' => e = .returned (.tuple #[.slice none 0 0, .int .i64 0]) ∧ Below w.heap.size w w' := by
  have hd : hdB 1 0 0 O [] = true := by unfold hdB; rw [show sndB 1 0 0 = true from by decide]; simp
  obtain ⟨i0, hi, hz0, hz1, hz2⟩ := info_parts info5
  go_enter Try.func26, Try.ntmps26
  go_wp2_with fail
  refine (refHolds_any a0 none c0 0 O [] 1 0 0 _ (by omega) (by omega)).mono ?_
  rw [hd]
  rintro e w1 ⟨rfl, hb⟩
  have S1 := (SpanAt.new w 1 0 0).keep hb
  have L1 : Below w.heap.size w w1 := (bAlloc (Below.refl _ _) _).trans (hb.mono (by simp))
  clear hb hd hz0 hz1 hz2
  obtain ⟨az, x0, x1, x2, -⟩ := id S1
  go_wp2_with (at_builtin; refine wpList_append_own_none rfl (.tmp 17) (.tmp 26) 22 rfl w.heap.size 5 i0 1 Try.underlying22 hi (.slice none 0 0) 0 [] rfl (World.ownsRow_nil _ _ _ _) rfl ?_)
  go_ret2
  exact ⟨rfl, L1⟩

set_option maxRecDepth 100000 in
set_option maxHeartbeats 1000000 in
theorem refRead_some0 (g c : Nat) (a1 : Option Addr) (c1 : Nat) (O A : List UInt8) (base o l : Nat) (w : World) (hs : Hid (sndB 0 o l = true)) (hh : o + l ≤ O.length) (hcp : O.length ≤ c) (hbig : l ≤ 140737488355328)
    (hX : Hid (w.ownsRow base 5 1 (.slice (some ⟨g, 0, none⟩) O.length c) O.length (bv O))) :
    Calls Try.prog 26 #[.slice (some ⟨g, 0, none⟩) O.length c, .slice a1 A.length c1, .agg #[.int .i64 0, .int .i64 o, .int .i64 l]] w fun e w' => ∃ ao k, e = .returned (.tuple #[.slice ao l k, .int .i64 0]) ∧ w'.ownsRow w.heap.size 5 1 (.slice ao l k) l (bv ((O.drop o).take l)) ∧ Below w.heap.size w w' := by
  have hd : Hid (hdB 0 o l O A = true) := hd_true hs.out (by simpa [which] using hh)
  have bd := snd_bd hs.out
  have hll : ((O.drop o).take l).length = l := by simp; omega
  have HL : Hid (((O.drop o).take l).length = l) := hll
  have hcap : (o : Int) + (l : Int) ≤ (c : Int) := by omega
  have hol : (o : Int) ≤ (o : Int) + (l : Int) := by omega
  clear hll
  obtain ⟨i0, hi, hz0, hz1, hz2⟩ := info_parts info5
  go_enter Try.func26, Try.ntmps26
  go_wp2_with fail
  refine (refHolds_any (some ⟨g, 0, none⟩) a1 c c1 O A 0 o l _ (by omega) (by omega)).mono ?_
  rw [hd.out]
  rintro e w1 ⟨rfl, hb⟩
  have S1 := (SpanAt.new w 0 o l).keep hb
  have X1 : Hid (w1.ownsRow base 5 1 (.slice (some ⟨g, 0, none⟩) O.length c) O.length (bv O)) := own_keep (hX.out.alloc _) hb
  have L1 : Below w.heap.size w w1 := (bAlloc (Below.refl _ _) _).trans (hb.mono (by simp))
  clear hb
  have hw := L1.size
  obtain ⟨az, x0, x1, x2, -⟩ := id S1
  by_cases hco : c = o
  · have hl0 : l = 0 := by omega
    subst hl0 hco
    go_wp2_with (at_builtin; refine wpList_append_own _ rfl (.tmp 28) (.tmp 37) 22 rfl w.heap.size 5 i0 (.int .u8 0) 1 1 Try.underlying22 hi hz0 hz1 hz2 rfl (by decide) (.slice none 0 0) 0 [] rfl (World.ownsRow_nil _ _ _ _) ⟨g, 0, none⟩ 0 0 [] rfl rfl (fun j u h => by simp at h) (fun u h => by simp at h) (by unfold maxLen; omega) (by omega) hw ?_; intro v' w2 hown hgrow _)
    obtain ⟨ao, k, rfl⟩ := own_shape hown
    have HW : Hid (w2.ownsRow w.heap.size 5 1 (.slice ao 0 k) 0 []) := by unfold Hid; simpa using hown
    have L2 : Below w.heap.size w w2 := L1.grown hgrow hw (by intro x hx; simp [Value.ownBlock] at hx)
    clear hown hgrow
    go_wp2
    go_ret2
    refine ⟨_, _, rfl, ?_, L2⟩
    exact HW.out
  · go_wp2_with (at_builtin; refine wpList_append_own _ rfl (.tmp 28) (.tmp 37) 22 rfl w.heap.size 5 i0 (.int .u8 0) 1 1 Try.underlying22 hi hz0 hz1 hz2 rfl (by decide) (.slice none 0 0) 0 [] rfl (World.ownsRow_nil _ _ _ _) ⟨g, o, none⟩ (o + l - o) (c - o) (bv ((O.drop o).take l)) rfl ?qc1 ?qc2 ?qc3 ?qc4 ?qc5 ?qc6 ?_)
    case qc1 => rw [bv_length, HL.out]; omega
    case qc2 => exact cut_src X1.out hh
    case qc3 => exact bv_one _
    case qc4 => unfold maxLen; omega
    case qc5 => omega
    case qc6 => exact hw
    intro v' w2 hown hgrow _
    obtain ⟨ao, k, rfl⟩ := own_shape hown
    have HW : Hid (w2.ownsRow w.heap.size 5 1 (.slice ao l k) l (bv ((O.drop o).take l))) := hown
    have L2 : Below w.heap.size w w2 := L1.grown hgrow hw (by intro x hx; simp [Value.ownBlock] at hx)
    clear hown hgrow
    go_wp2
    go_ret2
    exact ⟨_, _, rfl, HW.out, L2⟩

set_option maxRecDepth 100000 in
set_option maxHeartbeats 1000000 in
theorem refRead_some1 (g c : Nat) (a0 : Option Addr) (c0 : Nat) (O A : List UInt8) (base o l : Nat) (w : World) (hs : Hid (sndB 1 o l = true)) (hh : o + l ≤ A.length) (hcp : A.length ≤ c) (hbig : l ≤ 140737488355328)
    (hX : Hid (w.ownsRow base 5 1 (.slice (some ⟨g, 0, none⟩) A.length c) A.length (bv A))) :
    Calls Try.prog 26 #[.slice a0 O.length c0, .slice (some ⟨g, 0, none⟩) A.length c, .agg #[.int .i64 1, .int .i64 o, .int .i64 l]] w fun e w' => ∃ ao k, e = .returned (.tuple #[.slice ao l k, .int .i64 0]) ∧ w'.ownsRow w.heap.size 5 1 (.slice ao l k) l (bv ((A.drop o).take l)) ∧ Below w.heap.size w w' := by
  have hd : Hid (hdB 1 o l O A = true) := hd_true hs.out (by simpa [which] using hh)
  have bd := snd_bd hs.out
  have hll : ((A.drop o).take l).length = l := by simp; omega
  have HL : Hid (((A.drop o).take l).length = l) := hll
  have hcap : (o : Int) + (l : Int) ≤ (c : Int) := by omega
  have hol : (o : Int) ≤ (o : Int) + (l : Int) := by omega
  clear hll
  obtain ⟨i0, hi, hz0, hz1, hz2⟩ := info_parts info5
  go_enter Try.func26, Try.ntmps26
  go_wp2_with fail
  refine (refHolds_any a0 (some ⟨g, 0, none⟩) c0 c O A 1 o l _ (by omega) (by omega)).mono ?_
  rw [hd.out]
  rintro e w1 ⟨rfl, hb⟩
  have S1 := (SpanAt.new w 1 o l).keep hb
  have X1 : Hid (w1.ownsRow base 5 1 (.slice (some ⟨g, 0, none⟩) A.length c) A.length (bv A)) := own_keep (hX.out.alloc _) hb
  have L1 : Below w.heap.size w w1 := (bAlloc (Below.refl _ _) _).trans (hb.mono (by simp))
  clear hb
  have hw := L1.size
  obtain ⟨az, x0, x1, x2, -⟩ := id S1
  by_cases hco : c = o
  · have hl0 : l = 0 := by omega
    subst hl0 hco
    go_wp2_with (at_builtin; refine wpList_append_own _ rfl (.tmp 17) (.tmp 26) 22 rfl w.heap.size 5 i0 (.int .u8 0) 1 1 Try.underlying22 hi hz0 hz1 hz2 rfl (by decide) (.slice none 0 0) 0 [] rfl (World.ownsRow_nil _ _ _ _) ⟨g, 0, none⟩ 0 0 [] rfl rfl (fun j u h => by simp at h) (fun u h => by simp at h) (by unfold maxLen; omega) (by omega) hw ?_; intro v' w2 hown hgrow _)
    obtain ⟨ao, k, rfl⟩ := own_shape hown
    have HW : Hid (w2.ownsRow w.heap.size 5 1 (.slice ao 0 k) 0 []) := by unfold Hid; simpa using hown
    have L2 : Below w.heap.size w w2 := L1.grown hgrow hw (by intro x hx; simp [Value.ownBlock] at hx)
    clear hown hgrow
    go_wp2
    go_ret2
    refine ⟨_, _, rfl, ?_, L2⟩
    exact HW.out
  · go_wp2_with (at_builtin; refine wpList_append_own _ rfl (.tmp 17) (.tmp 26) 22 rfl w.heap.size 5 i0 (.int .u8 0) 1 1 Try.underlying22 hi hz0 hz1 hz2 rfl (by decide) (.slice none 0 0) 0 [] rfl (World.ownsRow_nil _ _ _ _) ⟨g, o, none⟩ (o + l - o) (c - o) (bv ((A.drop o).take l)) rfl ?qc1 ?qc2 ?qc3 ?qc4 ?qc5 ?qc6 ?_)
    case qc1 => rw [bv_length, HL.out]; omega
    case qc2 => exact cut_src X1.out hh
    case qc3 => exact bv_one _
    case qc4 => unfold maxLen; omega
    case qc5 => omega
    case qc6 => exact hw
    intro v' w2 hown hgrow _
    obtain ⟨ao, k, rfl⟩ := own_shape hown
    have HW : Hid (w2.ownsRow w.heap.size 5 1 (.slice ao l k) l (bv ((A.drop o).take l))) := hown
    have L2 : Below w.heap.size w w2 := L1.grown hgrow hw (by intro x hx; simp [Value.ownBlock] at hx)
    clear hown hgrow
    go_wp2
    go_ret2
    exact ⟨_, _, rfl, HW.out, L2⟩


theorem refRead_yes (a0 a1 : Option Addr) (c0 c1 : Nat) (O A : List UInt8) (base : Nat) (s : Int) (o l : Nat) (w : World) (hs : sndB s o l = true) (hh : o + l ≤ (which s O A).length) (hbig : l ≤ 140737488355328)
    (hO : w.ownsRow base 5 1 (.slice a0 O.length c0) O.length (bv O)) (hA : w.ownsRow base 5 1 (.slice a1 A.length c1) A.length (bv A)) :
    Calls Try.prog 26 #[.slice a0 O.length c0, .slice a1 A.length c1, .agg #[.int .i64 s, .int .i64 o, .int .i64 l]] w fun e w' => ∃ ao c, e = .returned (.tuple #[.slice ao l c, .int .i64 0]) ∧ w'.ownsRow w.heap.size 5 1 (.slice ao l c) l (bv (cutL s o l O A)) ∧ Below w.heap.size w w' := by
  rcases snd_src' hs with rfl | rfl
  · have e0 : which 0 O A = O := by simp [which]
    rw [e0] at hh
    have HE : cutL 0 o l O A = (O.drop o).take l := by unfold cutL; rw [e0]; simp
    rw [HE]
    rcases hO.2 with ⟨hv, h0⟩ | ⟨g, cap, cur, hv, _, _, hg3, _⟩
    · obtain rfl := List.eq_nil_of_length_eq_zero h0
      have hv2 : a0 = none ∧ c0 = 0 := by simp at hv; exact ⟨hv.1, hv.2⟩
      obtain ⟨rfl, rfl⟩ := hv2
      have ho : o = 0 := by simp at hh; omega
      have hl : l = 0 := by simp at hh; omega
      subst ho hl
      refine (refRead_nil0 a1 c1 A w).mono ?_
      rintro e w' ⟨rfl, hb⟩
      exact ⟨none, 0, rfl, World.ownsRow_nil _ _ _ _, hb⟩
    · have hv2 : a0 = some ⟨g, 0, none⟩ ∧ c0 = cap := by simpa using hv
      obtain ⟨rfl, rfl⟩ := hv2
      exact refRead_some0 g c0 a1 c1 O A base o l w hs hh hg3 hbig hO
  · have e0 : which 1 O A = A := by simp [which]
    rw [e0] at hh
    have HE : cutL 1 o l O A = (A.drop o).take l := by unfold cutL; rw [e0]; simp
    rw [HE]
    rcases hA.2 with ⟨hv, h0⟩ | ⟨g, cap, cur, hv, _, _, hg3, _⟩
    · obtain rfl := List.eq_nil_of_length_eq_zero h0
      have hv2 : a1 = none ∧ c1 = 0 := by simp at hv; exact ⟨hv.1, hv.2⟩
      obtain ⟨rfl, rfl⟩ := hv2
      have ho : o = 0 := by simp at hh; omega
      have hl : l = 0 := by simp at hh; omega
      subst ho hl
      refine (refRead_nil1 a0 c0 O w).mono ?_
      rintro e w' ⟨rfl, hb⟩
      exact ⟨none, 0, rfl, World.ownsRow_nil _ _ _ _, hb⟩
    · have hv2 : a1 = some ⟨g, 0, none⟩ ∧ c1 = cap := by simpa using hv
      obtain ⟨rfl, rfl⟩ := hv2
      exact refRead_some1 g c1 a0 c0 O A base o l w hs hh hg3 hbig hA
end Go.Proofs.Ytfjfflkdcmpgnaa
