/- The reference of addbuf: Sound, Joins, Cut. -/
import Derived.Test.YtmhpeppbhjpkiaaGreatPm07
import Derived.Test.YtmhpeppbhjpkiaaGreatPm32
namespace Go.Proofs.YtmhpeppbhjpkiaaGreat.Ab
open Go.RowKit

set_option maxHeartbeats 400000 in
theorem refSound_any (s o l : Int) (w : World) (h1 : -9223372036854775808 ≤ o) (h2 : o ≤ 9223372036854775807) :
    Calls Tryz.prog 104 #[.agg #[.int .i64 s, .int .i64 o, .int .i64 l]] w fun e w' => e = .returned (.bool (sndB s o l)) ∧ w' = w.alloc (.cells #[.int .i64 s, .int .i64 o, .int .i64 l] 57) := by
  go_enter Tryz.func104, Tryz.ntmps104
  go_wp2
  all_goals go_ret
  all_goals (try subst_vars)
  all_goals refine ⟨ret_bool ?_, rfl⟩
  all_goals (rw [Bool.eq_iff_iff]; unfold sndB; simp only [decide_eq_true_eq]; first | omega | (simp; done) | (simp; omega))
set_option maxHeartbeats 400000 in
theorem refJoins_yes (s o l s' o' l' : Int) (w : World) (h : jnB s o l s' o' l' = true) :
    Calls Tryz.prog 112 #[.agg #[.int .i64 s, .int .i64 o, .int .i64 l], .agg #[.int .i64 s', .int .i64 o', .int .i64 l']] w fun e w' => e = .returned (.tuple #[.agg #[.int .i64 s, .int .i64 o, .int .i64 (l + l')], .bool true]) ∧ Below w.heap.size w w' := by
  obtain ⟨ha, hb, rfl, rfl⟩ := jn_parts h
  have ba := snd_bd ha
  have bb := snd_bd hb
  clear h
  go_enter Tryz.func112, Tryz.ntmps112
  go_wp2_with (go_at_call 104; refine (refSound_any _ _ _ _ (by omega) (by omega)).mono ?_; rintro e w' ⟨rfl, rfl⟩)
  refine bodyPost_ret (v := .tuple #[.agg #[.int .i64 s, .int .i64 o, .int .i64 (l + l')], .bool true]) (by simp [results, Tryz.results112, go_sem]) rfl ⟨rfl, ?_⟩
  repeat (first | exact Below.refl _ _ | refine bAlloc ?_ _)

set_option maxHeartbeats 800000 in
theorem refJoins_no (s o l s' o' l' : Int) (w : World) (h1 : -9223372036854775808 ≤ o) (h2 : o ≤ 9223372036854775807) (h3 : -9223372036854775808 ≤ o') (h4 : o' ≤ 9223372036854775807) (h : jnB s o l s' o' l' = false) :
    Calls Tryz.prog 112 #[.agg #[.int .i64 s, .int .i64 o, .int .i64 l], .agg #[.int .i64 s', .int .i64 o', .int .i64 l']] w fun e w' => e = .returned (.tuple #[.agg #[.int .i64 0, .int .i64 0, .int .i64 0], .bool false]) ∧ Below w.heap.size w w' := by
  rcases jn_cases h with ha | ⟨ha, hb⟩ | ⟨ha, hb, hs⟩ | ⟨ha, hb, rfl, ho⟩
  all_goals clear h
  · go_enter Tryz.func112, Tryz.ntmps112
    go_wp2_with (go_at_call 104; refine (refSound_any _ _ _ _ (by omega) (by omega)).mono ?_; rintro e w' ⟨rfl, rfl⟩)
    refine bodyPost_ret (v := .tuple #[.agg #[.int .i64 0, .int .i64 0, .int .i64 0], .bool false]) (by simp [results, Tryz.results112, go_sem]) rfl ⟨rfl, ?_⟩
    repeat (first | exact Below.refl _ _ | refine bAlloc ?_ _)
  · go_enter Tryz.func112, Tryz.ntmps112
    go_wp2_with (go_at_call 104; refine (refSound_any _ _ _ _ (by omega) (by omega)).mono ?_; rintro e w' ⟨rfl, rfl⟩)
    refine bodyPost_ret (v := .tuple #[.agg #[.int .i64 0, .int .i64 0, .int .i64 0], .bool false]) (by simp [results, Tryz.results112, go_sem]) rfl ⟨rfl, ?_⟩
    repeat (first | exact Below.refl _ _ | refine bAlloc ?_ _)
  · go_enter Tryz.func112, Tryz.ntmps112
    go_wp2_with (go_at_call 104; refine (refSound_any _ _ _ _ (by omega) (by omega)).mono ?_; rintro e w' ⟨rfl, rfl⟩)
    refine bodyPost_ret (v := .tuple #[.agg #[.int .i64 0, .int .i64 0, .int .i64 0], .bool false]) (by simp [results, Tryz.results112, go_sem]) rfl ⟨rfl, ?_⟩
    repeat (first | exact Below.refl _ _ | refine bAlloc ?_ _)
  · have ba := snd_bd ha
    go_enter Tryz.func112, Tryz.ntmps112
    go_wp2_with (go_at_call 104; refine (refSound_any _ _ _ _ (by omega) (by omega)).mono ?_; rintro e w' ⟨rfl, rfl⟩)
    refine bodyPost_ret (v := .tuple #[.agg #[.int .i64 0, .int .i64 0, .int .i64 0], .bool false]) (by simp [results, Tryz.results112, go_sem]) rfl ⟨rfl, ?_⟩
    repeat (first | exact Below.refl _ _ | refine bAlloc ?_ _)

set_option maxHeartbeats 400000 in
theorem refCut_span (s o l t : Int) (w : World) (h1 : -9223372036854775808 ≤ o) (h2 : o ≤ 9223372036854775807) (h : sndB s o l = false) :
    Calls Tryz.prog 127 #[.agg #[.int .i64 s, .int .i64 o, .int .i64 l], .int .i64 t] w fun e w' => e = .returned (.tuple #[.agg #[.int .i64 0, .int .i64 0, .int .i64 0], .agg #[.int .i64 0, .int .i64 0, .int .i64 0], .int .i64 10]) ∧ Below w.heap.size w w' := by
  go_enter Tryz.func127, Tryz.ntmps127
  go_wp2_with (go_at_call 104; refine (refSound_any _ _ _ _ (by omega) (by omega)).mono ?_; rintro e w' ⟨rfl, rfl⟩)
  refine bodyPost_ret (v := .tuple #[.agg #[.int .i64 0, .int .i64 0, .int .i64 0], .agg #[.int .i64 0, .int .i64 0, .int .i64 0], .int .i64 10]) (by simp [results, Tryz.results127, go_sem]) rfl ⟨rfl, ?_⟩
  repeat (first | exact Below.refl _ _ | refine bAlloc ?_ _ | refine Below.drew ?_)

set_option maxHeartbeats 400000 in
theorem refCut_low (s o l t : Int) (w : World) (h : sndB s o l = true) (ht : t < 0) :
    Calls Tryz.prog 127 #[.agg #[.int .i64 s, .int .i64 o, .int .i64 l], .int .i64 t] w fun e w' => e = .returned (.tuple #[.agg #[.int .i64 0, .int .i64 0, .int .i64 0], .agg #[.int .i64 0, .int .i64 0, .int .i64 0], .int .i64 2]) ∧ Below w.heap.size w w' := by
  have ba := snd_bd h
  go_enter Tryz.func127, Tryz.ntmps127
  go_wp2_with (go_at_call 104; refine (refSound_any _ _ _ _ (by omega) (by omega)).mono ?_; rintro e w' ⟨rfl, rfl⟩)
  refine bodyPost_ret (v := .tuple #[.agg #[.int .i64 0, .int .i64 0, .int .i64 0], .agg #[.int .i64 0, .int .i64 0, .int .i64 0], .int .i64 2]) (by simp [results, Tryz.results127, go_sem]) rfl ⟨rfl, ?_⟩
  repeat (first | exact Below.refl _ _ | refine bAlloc ?_ _ | refine Below.drew ?_)

set_option maxHeartbeats 400000 in
theorem refCut_high (s o l t : Int) (w : World) (h : sndB s o l = true) (ht : l < t) :
    Calls Tryz.prog 127 #[.agg #[.int .i64 s, .int .i64 o, .int .i64 l], .int .i64 t] w fun e w' => e = .returned (.tuple #[.agg #[.int .i64 0, .int .i64 0, .int .i64 0], .agg #[.int .i64 0, .int .i64 0, .int .i64 0], .int .i64 2]) ∧ Below w.heap.size w w' := by
  have ba := snd_bd h
  go_enter Tryz.func127, Tryz.ntmps127
  go_wp2_with (go_at_call 104; refine (refSound_any _ _ _ _ (by omega) (by omega)).mono ?_; rintro e w' ⟨rfl, rfl⟩)
  refine bodyPost_ret (v := .tuple #[.agg #[.int .i64 0, .int .i64 0, .int .i64 0], .agg #[.int .i64 0, .int .i64 0, .int .i64 0], .int .i64 2]) (by simp [results, Tryz.results127, go_sem]) rfl ⟨rfl, ?_⟩
  repeat (first | exact Below.refl _ _ | refine bAlloc ?_ _ | refine Below.drew ?_)

set_option maxHeartbeats 400000 in
theorem refCut_yes (s o l t : Int) (w : World) (h : sndB s o l = true) (ht0 : 0 ≤ t) (ht : t ≤ l) :
    Calls Tryz.prog 127 #[.agg #[.int .i64 s, .int .i64 o, .int .i64 l], .int .i64 t] w fun e w' => e = .returned (.tuple #[.agg #[.int .i64 s, .int .i64 o, .int .i64 t], .agg #[.int .i64 s, .int .i64 (o + t), .int .i64 (l - t)], .int .i64 0]) ∧ Below w.heap.size w w' := by
  have ba := snd_bd h
  go_enter Tryz.func127, Tryz.ntmps127
  go_wp2_with (go_at_call 104; refine (refSound_any _ _ _ _ (by omega) (by omega)).mono ?_; rintro e w' ⟨rfl, rfl⟩)
  go_region
  all_goals go_wp2
  all_goals (refine bodyPost_ret (v := .tuple #[.agg #[.int .i64 s, .int .i64 o, .int .i64 t], .agg #[.int .i64 s, .int .i64 (o + t), .int .i64 (l - t)], .int .i64 0]) (by simp [results, Tryz.results127, go_sem]) rfl ⟨rfl, ?_⟩)
  all_goals (repeat (first | exact Below.refl _ _ | refine bAlloc ?_ _ | refine Below.drew ?_))

end Go.Proofs.YtmhpeppbhjpkiaaGreat.Ab

/- The contracts of quoinref01.Holds and quoinref01.Read, over two lists that the caller owns. -/
namespace Go.Proofs.YtmhpeppbhjpkiaaGreat.Ab
open Go.RowKit

theorem refSound_true (s o l : Int) (w : World) (hs : sndB s o l = true) :
    Calls Tryz.prog 104 #[.agg #[.int .i64 s, .int .i64 o, .int .i64 l]] w fun e w' => e = .returned (.bool true) ∧ w' = w.alloc (.cells #[.int .i64 s, .int .i64 o, .int .i64 l] 57) := by
  have ba := snd_bd hs
  have h := refSound_any s o l w (by omega) (by omega)
  rwa [hs] at h
theorem refSound_false (s o l : Int) (w : World) (h1 : -9223372036854775808 ≤ o) (h2 : o ≤ 9223372036854775807) (hs : sndB s o l = false) :
    Calls Tryz.prog 104 #[.agg #[.int .i64 s, .int .i64 o, .int .i64 l]] w fun e w' => e = .returned (.bool false) ∧ w' = w.alloc (.cells #[.int .i64 s, .int .i64 o, .int .i64 l] 57) := by
  have h := refSound_any s o l w h1 h2
  rwa [hs] at h
theorem snd_src' {s o l : Int} (h : sndB s o l = true) : s = 0 ∨ s = 1 := by
  unfold sndB at h; exact (of_decide_eq_true h).1

set_option maxHeartbeats 400000 in
theorem refHolds_any (a0 a1 : Option Addr) (c0 c1 : Nat) (O A : List UInt8) (s o l : Int) (w : World) (h1 : -9223372036854775808 ≤ o) (h2 : o ≤ 9223372036854775807) :
    Calls Tryz.prog 58 #[.slice a0 O.length c0, .slice a1 A.length c1, .agg #[.int .i64 s, .int .i64 o, .int .i64 l]] w fun e w' => e = .returned (.bool (hdB s o l O A)) ∧ Below w.heap.size w w' := by
  unfold hdB
  cases hs : sndB s o l with
  | false =>
    go_enter Tryz.func58, Tryz.ntmps58
    go_wp2_with (go_at_call 104; refine (refSound_false s o l _ h1 h2 hs).mono ?_; rintro e w' ⟨rfl, rfl⟩)
    go_ret
    exact ⟨by simp, bAlloc (bAlloc (Below.refl _ _) _) _⟩
  | true =>
    have bd := snd_bd hs
    rcases snd_src' hs with rfl | rfl
    · have e0 : which 0 O A = O := by simp [which]
      rw [e0]
      clear e0
      go_enter Tryz.func58, Tryz.ntmps58
      go_wp2_with (go_at_call 104; refine (refSound_true _ o l _ hs).mono ?_; rintro e w' ⟨rfl, rfl⟩)
      go_ret
      exact ⟨by simp, bAlloc (bAlloc (Below.refl _ _) _) _⟩
    · have e0 : which 1 O A = A := by simp [which]
      rw [e0]
      clear e0
      go_enter Tryz.func58, Tryz.ntmps58
      go_wp2_with (go_at_call 104; refine (refSound_true _ o l _ hs).mono ?_; rintro e w' ⟨rfl, rfl⟩)
      go_ret
      exact ⟨by simp, bAlloc (bAlloc (Below.refl _ _) _) _⟩

set_option maxHeartbeats 400000 in
theorem refRead_no (a0 a1 : Option Addr) (c0 c1 : Nat) (O A : List UInt8) (s o l : Int) (w : World) (h1 : -9223372036854775808 ≤ o) (h2 : o ≤ 9223372036854775807) (hd : hdB s o l O A = false) :
    Calls Tryz.prog 24 #[.slice a0 O.length c0, .slice a1 A.length c1, .agg #[.int .i64 s, .int .i64 o, .int .i64 l]] w fun e w' => e = .returned (.tuple #[.slice none 0 0, .int .i64 10]) ∧ Below w.heap.size w w' := by
  go_enter Tryz.func24, Tryz.ntmps24
  go_wp2_with fail
  refine (refHolds_any a0 a1 c0 c1 O A s o l _ h1 h2).mono ?_
  rw [hd]
  rintro e w1 ⟨rfl, hb⟩
  go_wp2
  go_ret2
  exact ⟨rfl, (bAlloc (Below.refl _ _) _).trans (hb.mono (by simp))⟩

/-- the source of the reference's append: a part of an owned list -/
theorem cut_src {W : World} {base g c o l : Nat} {L : List UInt8} (h : W.ownsRow base 5 1 (.slice (some ⟨g, 0, none⟩) L.length c) L.length (bv L)) (hh : o + l ≤ L.length) :
    ∀ j u, (bv ((L.drop o).take l))[j]? = some u → W.cell? ((⟨g, o, none⟩ : Addr).add j) = some u := by
  intro j u hu
  have e : ((L.drop o).take l).length = l := by simp; omega
  have hj : j < l := by
    have := (List.getElem?_eq_some_iff.1 hu).1
    rw [bv_length, e] at this; exact this
  have hadd : (⟨g, o, none⟩ : Addr).add j = ⟨g, o + j, none⟩ := by unfold Addr.add; split <;> simp_all
  rw [hadd, h.cellAt (o + j) (by omega), ← hu]
  simp [bv, hj]

set_option maxRecDepth 100000 in
set_option maxHeartbeats 400000 in
theorem refRead_nil0 (a1 : Option Addr) (c1 : Nat) (A : List UInt8) (w : World) :
    Calls Tryz.prog 24 #[.slice none 0 0, .slice a1 A.length c1, .agg #[.int .i64 0, .int .i64 0, .int .i64 0]] w fun e w' => e = .returned (.tuple #[.slice none 0 0, .int .i64 0]) ∧ Below w.heap.size w w' := by
  have hd : hdB 0 0 0 [] A = true := by unfold hdB; rw [show sndB 0 0 0 = true from by decide]; simp
  obtain ⟨i0, hi, hz0, hz1, hz2⟩ := info_parts info5
  go_enter Tryz.func24, Tryz.ntmps24
  go_wp2_with fail
  refine (refHolds_any none a1 0 c1 [] A 0 0 0 _ (by omega) (by omega)).mono ?_
  rw [hd]
  rintro e w1 ⟨rfl, hb⟩
  have S1 := (SpanAt.new w 0 0 0).keep hb
  have L1 : Below w.heap.size w w1 := (bAlloc (Below.refl _ _) _).trans (hb.mono (by simp))
  clear hb hd hz0 hz1 hz2
  obtain ⟨az, x0, x1, x2, -⟩ := id S1
  go_wp2_with (at_builtin; refine wpList_append_own_none rfl (.tmp 28) (.tmp 37) 22 rfl w.heap.size 5 i0 1 Tryz.underlying22 hi (.slice none 0 0) 0 [] rfl (World.ownsRow_nil _ _ _ _) rfl ?_)
  go_ret2
  exact ⟨rfl, L1⟩

set_option maxRecDepth 100000 in
set_option maxHeartbeats 400000 in
theorem refRead_nil1 (a0 : Option Addr) (c0 : Nat) (O : List UInt8) (w : World) :
    Calls Tryz.prog 24 #[.slice a0 O.length c0, .slice none 0 0, .agg #[.int .i64 1, .int .i64 0, .int .i64 0]] w fun e w' => e = .returned (.tuple #[.slice none 0 0, .int .i64 0]) ∧ Below w.heap.size w w' := by
  have hd : hdB 1 0 0 O [] = true := by unfold hdB; rw [show sndB 1 0 0 = true from by decide]; simp
  obtain ⟨i0, hi, hz0, hz1, hz2⟩ := info_parts info5
  go_enter Tryz.func24, Tryz.ntmps24
  go_wp2_with fail
  refine (refHolds_any a0 none c0 0 O [] 1 0 0 _ (by omega) (by omega)).mono ?_
  rw [hd]
  rintro e w1 ⟨rfl, hb⟩
  have S1 := (SpanAt.new w 1 0 0).keep hb
  have L1 : Below w.heap.size w w1 := (bAlloc (Below.refl _ _) _).trans (hb.mono (by simp))
  clear hb hd hz0 hz1 hz2
  obtain ⟨az, x0, x1, x2, -⟩ := id S1
  go_wp2_with (at_builtin; refine wpList_append_own_none rfl (.tmp 17) (.tmp 26) 22 rfl w.heap.size 5 i0 1 Tryz.underlying22 hi (.slice none 0 0) 0 [] rfl (World.ownsRow_nil _ _ _ _) rfl ?_)
  go_ret2
  exact ⟨rfl, L1⟩

set_option maxRecDepth 100000 in
set_option maxHeartbeats 1000000 in
theorem refRead_some0 (g c : Nat) (a1 : Option Addr) (c1 : Nat) (O A : List UInt8) (base o l : Nat) (w : World) (hs : Hid (sndB 0 o l = true)) (hh : o + l ≤ O.length) (hcp : O.length ≤ c) (hbig : l ≤ 140737488355328)
    (hX : Hid (w.ownsRow base 5 1 (.slice (some ⟨g, 0, none⟩) O.length c) O.length (bv O))) :
    Calls Tryz.prog 24 #[.slice (some ⟨g, 0, none⟩) O.length c, .slice a1 A.length c1, .agg #[.int .i64 0, .int .i64 o, .int .i64 l]] w fun e w' => ∃ ao k, e = .returned (.tuple #[.slice ao l k, .int .i64 0]) ∧ w'.ownsRow w.heap.size 5 1 (.slice ao l k) l (bv ((O.drop o).take l)) ∧ Below w.heap.size w w' := by
  have hd : Hid (hdB 0 o l O A = true) := hd_true hs.out (by simpa [which] using hh)
  have bd := snd_bd hs.out
  have hll : ((O.drop o).take l).length = l := by simp; omega
  have HL : Hid (((O.drop o).take l).length = l) := hll
  have hcap : (o : Int) + (l : Int) ≤ (c : Int) := by omega
  have hol : (o : Int) ≤ (o : Int) + (l : Int) := by omega
  clear hll
  obtain ⟨i0, hi, hz0, hz1, hz2⟩ := info_parts info5
  go_enter Tryz.func24, Tryz.ntmps24
  go_wp2_with fail
  refine (refHolds_any (some ⟨g, 0, none⟩) a1 c c1 O A 0 o l _ (by omega) (by omega)).mono ?_
  rw [hd.out]
  rintro e w1 ⟨rfl, hb⟩
  have S1 := (SpanAt.new w 0 o l).keep hb
  have X1 : Hid (w1.ownsRow base 5 1 (.slice (some ⟨g, 0, none⟩) O.length c) O.length (bv O)) := own_keep (hX.out.alloc _) hb
  have L1 : Below w.heap.size w w1 := (bAlloc (Below.refl _ _) _).trans (hb.mono (by simp))
  clear hb
  have hw := L1.size
  obtain ⟨az, x0, x1, x2, -⟩ := id S1
  by_cases hco : c = o
  · have hl0 : l = 0 := by omega
    subst hl0 hco
    go_wp2_with (at_builtin; refine wpList_append_own _ rfl (.tmp 28) (.tmp 37) 22 rfl w.heap.size 5 i0 (.int .u8 0) 1 1 Tryz.underlying22 hi hz0 hz1 hz2 rfl (by decide) (.slice none 0 0) 0 [] rfl (World.ownsRow_nil _ _ _ _) ⟨g, 0, none⟩ 0 0 [] rfl rfl (fun j u h => by simp at h) (fun u h => by simp at h) (by unfold maxLen; omega) (by omega) hw ?_; intro v' w2 hown hgrow _)
    obtain ⟨ao, k, rfl⟩ := own_shape hown
    have HW : Hid (w2.ownsRow w.heap.size 5 1 (.slice ao 0 k) 0 []) := by unfold Hid; simpa using hown
    have L2 : Below w.heap.size w w2 := L1.grown hgrow hw (by intro x hx; simp [Value.ownBlock] at hx)
    clear hown hgrow
    go_wp2
    go_ret2
    refine ⟨_, _, rfl, ?_, L2⟩
    exact HW.out
  · go_wp2_with (at_builtin; refine wpList_append_own _ rfl (.tmp 28) (.tmp 37) 22 rfl w.heap.size 5 i0 (.int .u8 0) 1 1 Tryz.underlying22 hi hz0 hz1 hz2 rfl (by decide) (.slice none 0 0) 0 [] rfl (World.ownsRow_nil _ _ _ _) ⟨g, o, none⟩ (o + l - o) (c - o) (bv ((O.drop o).take l)) rfl ?qc1 ?qc2 ?qc3 ?qc4 ?qc5 ?qc6 ?_)
    case qc1 => rw [bv_length, HL.out]; omega
    case qc2 => exact cut_src X1.out hh
    case qc3 => exact bv_one _
    case qc4 => unfold maxLen; omega
    case qc5 => omega
    case qc6 => exact hw
    intro v' w2 hown hgrow _
    obtain ⟨ao, k, rfl⟩ := own_shape hown
    have HW : Hid (w2.ownsRow w.heap.size 5 1 (.slice ao l k) l (bv ((O.drop o).take l))) := hown
    have L2 : Below w.heap.size w w2 := L1.grown hgrow hw (by intro x hx; simp [Value.ownBlock] at hx)
    clear hown hgrow
    go_wp2
    go_ret2
    exact ⟨_, _, rfl, HW.out, L2⟩

set_option maxRecDepth 100000 in
set_option maxHeartbeats 1000000 in
theorem refRead_some1 (g c : Nat) (a0 : Option Addr) (c0 : Nat) (O A : List UInt8) (base o l : Nat) (w : World) (hs : Hid (sndB 1 o l = true)) (hh : o + l ≤ A.length) (hcp : A.length ≤ c) (hbig : l ≤ 140737488355328)
    (hX : Hid (w.ownsRow base 5 1 (.slice (some ⟨g, 0, none⟩) A.length c) A.length (bv A))) :
    Calls Tryz.prog 24 #[.slice a0 O.length c0, .slice (some ⟨g, 0, none⟩) A.length c, .agg #[.int .i64 1, .int .i64 o, .int .i64 l]] w fun e w' => ∃ ao k, e = .returned (.tuple #[.slice ao l k, .int .i64 0]) ∧ w'.ownsRow w.heap.size 5 1 (.slice ao l k) l (bv ((A.drop o).take l)) ∧ Below w.heap.size w w' := by
  have hd : Hid (hdB 1 o l O A = true) := hd_true hs.out (by simpa [which] using hh)
  have bd := snd_bd hs.out
  have hll : ((A.drop o).take l).length = l := by simp; omega
  have HL : Hid (((A.drop o).take l).length = l) := hll
  have hcap : (o : Int) + (l : Int) ≤ (c : Int) := by omega
  have hol : (o : Int) ≤ (o : Int) + (l : Int) := by omega
  clear hll
  obtain ⟨i0, hi, hz0, hz1, hz2⟩ := info_parts info5
  go_enter Tryz.func24, Tryz.ntmps24
  go_wp2_with fail
  refine (refHolds_any a0 (some ⟨g, 0, none⟩) c0 c O A 1 o l _ (by omega) (by omega)).mono ?_
  rw [hd.out]
  rintro e w1 ⟨rfl, hb⟩
  have S1 := (SpanAt.new w 1 o l).keep hb
  have X1 : Hid (w1.ownsRow base 5 1 (.slice (some ⟨g, 0, none⟩) A.length c) A.length (bv A)) := own_keep (hX.out.alloc _) hb
  have L1 : Below w.heap.size w w1 := (bAlloc (Below.refl _ _) _).trans (hb.mono (by simp))
  clear hb
  have hw := L1.size
  obtain ⟨az, x0, x1, x2, -⟩ := id S1
  by_cases hco : c = o
  · have hl0 : l = 0 := by omega
    subst hl0 hco
    go_wp2_with (at_builtin; refine wpList_append_own _ rfl (.tmp 17) (.tmp 26) 22 rfl w.heap.size 5 i0 (.int .u8 0) 1 1 Tryz.underlying22 hi hz0 hz1 hz2 rfl (by decide) (.slice none 0 0) 0 [] rfl (World.ownsRow_nil _ _ _ _) ⟨g, 0, none⟩ 0 0 [] rfl rfl (fun j u h => by simp at h) (fun u h => by simp at h) (by unfold maxLen; omega) (by omega) hw ?_; intro v' w2 hown hgrow _)
    obtain ⟨ao, k, rfl⟩ := own_shape hown
    have HW : Hid (w2.ownsRow w.heap.size 5 1 (.slice ao 0 k) 0 []) := by unfold Hid; simpa using hown
    have L2 : Below w.heap.size w w2 := L1.grown hgrow hw (by intro x hx; simp [Value.ownBlock] at hx)
    clear hown hgrow
    go_wp2
    go_ret2
    refine ⟨_, _, rfl, ?_, L2⟩
    exact HW.out
  · go_wp2_with (at_builtin; refine wpList_append_own _ rfl (.tmp 17) (.tmp 26) 22 rfl w.heap.size 5 i0 (.int .u8 0) 1 1 Tryz.underlying22 hi hz0 hz1 hz2 rfl (by decide) (.slice none 0 0) 0 [] rfl (World.ownsRow_nil _ _ _ _) ⟨g, o, none⟩ (o + l - o) (c - o) (bv ((A.drop o).take l)) rfl ?qc1 ?qc2 ?qc3 ?qc4 ?qc5 ?qc6 ?_)
    case qc1 => rw [bv_length, HL.out]; omega
    case qc2 => exact cut_src X1.out hh
    case qc3 => exact bv_one _
    case qc4 => unfold maxLen; omega
    case qc5 => omega
    case qc6 => exact hw
    intro v' w2 hown hgrow _
    obtain ⟨ao, k, rfl⟩ := own_shape hown
    have HW : Hid (w2.ownsRow w.heap.size 5 1 (.slice ao l k) l (bv ((A.drop o).take l))) := hown
    have L2 : Below w.heap.size w w2 := L1.grown hgrow hw (by intro x hx; simp [Value.ownBlock] at hx)
    clear hown hgrow
    go_wp2
    go_ret2
    exact ⟨_, _, rfl, HW.out, L2⟩


theorem refRead_yes (a0 a1 : Option Addr) (c0 c1 : Nat) (O A : List UInt8) (base : Nat) (s : Int) (o l : Nat) (w : World) (hs : sndB s o l = true) (hh : o + l ≤ (which s O A).length) (hbig : l ≤ 140737488355328)
    (hO : w.ownsRow base 5 1 (.slice a0 O.length c0) O.length (bv O)) (hA : w.ownsRow base 5 1 (.slice a1 A.length c1) A.length (bv A)) :
    Calls Tryz.prog 24 #[.slice a0 O.length c0, .slice a1 A.length c1, .agg #[.int .i64 s, .int .i64 o, .int .i64 l]] w fun e w' => ∃ ao c, e = .returned (.tuple #[.slice ao l c, .int .i64 0]) ∧ w'.ownsRow w.heap.size 5 1 (.slice ao l c) l (bv (cutL s o l O A)) ∧ Below w.heap.size w w' := by
  rcases snd_src' hs with rfl | rfl
  · have e0 : which 0 O A = O := by simp [which]
    rw [e0] at hh
    have HE : cutL 0 o l O A = (O.drop o).take l := by unfold cutL; rw [e0]; simp
    rw [HE]
    rcases hO.2 with ⟨hv, h0⟩ | ⟨g, cap, cur, hv, _, _, hg3, _⟩
    · obtain rfl := List.eq_nil_of_length_eq_zero h0
      have hv2 : a0 = none ∧ c0 = 0 := by simp at hv; exact ⟨hv.1, hv.2⟩
      obtain ⟨rfl, rfl⟩ := hv2
      have ho : o = 0 := by simp at hh; omega
      have hl : l = 0 := by simp at hh; omega
      subst ho hl
      refine (refRead_nil0 a1 c1 A w).mono ?_
      rintro e w' ⟨rfl, hb⟩
      exact ⟨none, 0, rfl, World.ownsRow_nil _ _ _ _, hb⟩
    · have hv2 : a0 = some ⟨g, 0, none⟩ ∧ c0 = cap := by simpa using hv
      obtain ⟨rfl, rfl⟩ := hv2
      exact refRead_some0 g c0 a1 c1 O A base o l w hs hh hg3 hbig hO
  · have e0 : which 1 O A = A := by simp [which]
    rw [e0] at hh
    have HE : cutL 1 o l O A = (A.drop o).take l := by unfold cutL; rw [e0]; simp
    rw [HE]
    rcases hA.2 with ⟨hv, h0⟩ | ⟨g, cap, cur, hv, _, _, hg3, _⟩
    · obtain rfl := List.eq_nil_of_length_eq_zero h0
      have hv2 : a1 = none ∧ c1 = 0 := by simp at hv; exact ⟨hv.1, hv.2⟩
      obtain ⟨rfl, rfl⟩ := hv2
      have ho : o = 0 := by simp at hh; omega
      have hl : l = 0 := by simp at hh; omega
      subst ho hl
      refine (refRead_nil1 a0 c0 O w).mono ?_
      rintro e w' ⟨rfl, hb⟩
      exact ⟨none, 0, rfl, World.ownsRow_nil _ _ _ _, hb⟩
    · have hv2 : a1 = some ⟨g, 0, none⟩ ∧ c1 = cap := by simpa using hv
      obtain ⟨rfl, rfl⟩ := hv2
      exact refRead_some1 g c1 a0 c0 O A base o l w hs hh hg3 hbig hA
end Go.Proofs.YtmhpeppbhjpkiaaGreat.Ab

/- The contracts of quoinref01.ends, Byte, Lines and LineAt. -/
namespace Go.Proofs.YtmhpeppbhjpkiaaGreat.Ab
open Go.RowKit

/-- the places of the line ends among the first j bytes -/
def endsTo (C : List UInt8) (j : Nat) : List Nat := (List.range j).filter fun i => ((at8 C i).toNat : Int) == 10
theorem endsTo_succ (C : List UInt8) (j : Nat) : endsTo C (j + 1) = endsTo C j ++ if (((at8 C j).toNat : Int) == 10) = true then [j] else [] := by
  unfold endsTo
  rw [List.range_succ, List.filter_append]
  cases h : (((at8 C j).toNat : Int) == 10) <;> simp [h]
theorem endsTo_length (C : List UInt8) (j : Nat) (h : j ≤ C.length) : (endsTo C j).length = nl (C.take j) := by
  induction j with
  | zero => simp [endsTo, nl]
  | succ j ih =>
    have hj : j < C.length := by omega
    rw [endsTo_succ, List.length_append, ih (by omega), nl_take C j hj, at8_eq hj]
    split <;> simp
theorem endsTo_at (C : List UInt8) (j n : Nat) (hj : j ≤ C.length) (hn : n < nl (C.take j)) :
    ∃ q, (endsTo C j)[n]? = some q ∧ ∃ hq : q < C.length, ((C[q].toNat : Int) == 10) = true ∧ nl (C.take q) = n := by
  induction j with
  | zero => simp [nl] at hn
  | succ j ih =>
    have hj' : j < C.length := by omega
    have hl := endsTo_length C j (by omega)
    rw [endsTo_succ]
    rw [nl_take C j hj'] at hn
    rcases Nat.lt_or_ge n (nl (C.take j)) with h | h
    · obtain ⟨q, h1, h2⟩ := ih (by omega) h
      exact ⟨q, by rw [List.getElem?_append_left (by omega)]; exact h1, h2⟩
    · cases h10 : ((C[j].toNat : Int) == 10) with
      | false => rw [h10] at hn; simp at hn; omega
      | true =>
        rw [h10] at hn
        simp at hn
        have hnn : n = nl (C.take j) := by omega
        refine ⟨j, ?_, hj', h10, hnn.symm⟩
        rw [at8_eq hj', h10, List.getElem?_append_right (by omega), hl, hnn]
        simp

theorem info3 : (Tryz.prog.info? 3).map (fun i => (i.zero, i.size, i.bytes)) = some (some (.int .i64 0), 1, 8) := by kernel_rfl
def iv (l : List Nat) : List Value := l.map fun (n : Nat) => Value.int .i64 (n : Int)

set_option maxRecDepth 100000 in
set_option maxHeartbeats 1000000 in
theorem ends_any (ao : Option Addr) (c : Nat) (C : List UInt8) (w : World) (hbig : C.length ≤ 4398046511104) (hr : Hid (RdB w (.slice ao C.length c) C)) :
    Calls Tryz.prog 102 #[.slice ao C.length c] w fun e w' => ∃ ae ce, e = .returned (.slice ae (nl C) ce) ∧ w'.ownsRow w.heap.size 3 1 (.slice ae (nl C) ce) (nl C) (iv (endsTo C C.length)) ∧ Below w.heap.size w w' := by
  obtain ⟨i0, hi, hz0, hz1, hz2⟩ := info_parts info3
  go_enter Tryz.func102, Tryz.ntmps102
  go_wp2_with fail
  go_loopw [3, 4] (fun v i wr => ∃ j : Nat, j ≤ C.length ∧ i = .int .i64 j ∧ wr.ownsRow w.heap.size 3 1 v (nl (C.take j)) (iv (endsTo C j)) ∧ Below w.heap.size w wr) (fun _ i _ => C.length - (intOf i).toNat)
  case atStart => exact ⟨0, Nat.zero_le _, rfl, (by rw [show nl (C.take 0) = 0 from by simp [nl], show endsTo C 0 = [] from by simp [endsTo]]; exact World.ownsRow_nil _ _ _ _), Below.refl _ _⟩
  case round =>
    obtain ⟨j, hj, rfl, hown, hb⟩ := hrel
    have HW : Hid (wr.ownsRow w.heap.size 3 1 u3 (nl (C.take j)) (iv (endsTo C j))) := hown
    have HB : Hid (Below w.heap.size w wr) := hb
    clear hown hb
    by_cases hlt : j < C.length
    · rcases (hr.out.keep HB.out) with ⟨_, hn⟩ | ⟨g, off, c', hv, hcell⟩
      · rw [hn] at hlt; simp at hlt
      have hao : ao = some ⟨g, off, none⟩ := by simp at hv; exact hv.1
      subst hao
      have hc0 := hcell j _ (bv_at _ j hlt)
      rw [← at8_eq hlt] at hc0
      have hj0 : (0 : Int) ≤ (j : Int) := by omega
      have hjl : (j : Int) < (C.length : Int) := by omega
      have hnl : nl (C.take j) ≤ j := by have h1 := nl_le (C.take j); have h2 : (C.take j).length ≤ j := List.length_take_le _ _; omega
      clear hcell hv
      cases h10 : (((at8 C j).toNat : Int) == 10) with
      | false =>
        have HN : Hid (nl (C.take (j + 1)) = nl (C.take j) ∧ endsTo C (j + 1) = endsTo C j) := by
          have h1 := nl_take C j hlt
          rw [← at8_eq hlt, h10] at h1
          have h2 := endsTo_succ C j
          rw [h10] at h2
          exact ⟨by simpa using h1, by simpa using h2⟩
        go_wp2
        go_roundw
        case rel => exact ⟨j + 1, by omega, by go_num, by rw [HN.out.1, HN.out.2]; exact HW.out, HB.out⟩
        case measure => simp [intOf]; omega
      | true =>
        have HN : Hid (nl (C.take (j + 1)) = nl (C.take j) + 1 ∧ endsTo C (j + 1) = endsTo C j ++ [j]) := by
          have h1 := nl_take C j hlt
          rw [← at8_eq hlt, h10] at h1
          have h2 := endsTo_succ C j
          rw [h10] at h2
          exact ⟨by simpa using h1, by simpa using h2⟩
        go_wp2_with (at_builtin; refine wpList_append_own _ rfl (.tmp 16) (.tmp 18) 70 rfl w.heap.size 3 i0 (.int .i64 0) 1 8 Tryz.underlying70 hi hz0 hz1 hz2 rfl (by decide) u3 (nl (C.take j)) (iv (endsTo C j)) rfl (HW.out.alloc _) ⟨wr.heap.size, 0, none⟩ 1 1 [.int .i64 (j : Int)] rfl rfl ?qd2 ?qd3 ?qd4 ?qd5 ?qd6 ?_)
        case qd2 => exact fun k u hk => lit_cells wr _ 3 k u hk
        case qd3 => intro u hu; simp at hu; rw [hu]; rfl
        case qd4 => unfold maxLen; omega
        case qd5 => omega
        case qd6 => have := HB.out.size; simp; omega
        intro v' w2 hown hgrow _
        have HW2 : Hid (w2.ownsRow w.heap.size 3 1 v' (nl (C.take (j + 1))) (iv (endsTo C (j + 1)))) := by
          unfold Hid
          rw [HN.out.1, HN.out.2]
          unfold iv at *
          simpa using hown
        have HB2 : Hid (Below w.heap.size w w2) := (bAlloc HB.out _).grown hgrow (by have := HB.out.size; simp; omega) (fun k hk => (HW.out.lt k hk).1)
        clear hown hgrow
        go_wp2
        go_roundw
        case rel => exact ⟨j + 1, by omega, by go_num, HW2.out, HB2.out⟩
        case measure => simp [intOf]; omega
    · obtain rfl : j = C.length := by omega
      rw [List.take_length] at HW
      obtain ⟨ae, ce, rfl⟩ := own_shape HW.out
      go_wp2
      go_ret
      exact ⟨ae, ce, rfl, HW.out, HB.out⟩
end Go.Proofs.YtmhpeppbhjpkiaaGreat.Ab

/- The program's Byte, Lines, LineAt and the reference's answer the same, for every span and number. -/
namespace Go.Proofs.YtmhpeppbhjpkiaaGreat.Ab
open Go.RowKit

/-- what Byte answers -/
def byV (s o l i : Int) (O A : List UInt8) : Int := if hdB s o l O A = true ∧ 0 ≤ i ∧ i < l then ((at8 (cutL s o l O A) i.toNat).toNat : Int) else 0
def byE (s o l i : Int) (O A : List UInt8) : Int := if hdB s o l O A = false then 10 else if i < 0 ∨ l ≤ i then 2 else 0
/-- what Lines answers -/
def lnV (s o l : Int) (O A : List UInt8) : Int := if hdB s o l O A = true then (nl (cutL s o l O A) : Int) else 0
def lnE (s o l : Int) (O A : List UInt8) : Int := if hdB s o l O A = true then 0 else 10
/-- what LineAt answers -/
def laV (s o l n : Int) (O A : List UInt8) : Int := if hdB s o l O A = true ∧ 0 ≤ n ∧ n < nl (cutL s o l O A) then ((endsTo (cutL s o l O A) (cutL s o l O A).length).getD n.toNat 0 : Int) else 0
def laE (s o l n : Int) (O A : List UInt8) : Int := if hdB s o l O A = false then 10 else if n < 0 ∨ (nl (cutL s o l O A) : Int) ≤ n then 2 else 0

theorem byte_all (p : Option Addr) (s o l i : Int) (O A : List UInt8) (base : Nat) (w : World) (h1 : -9223372036854775808 ≤ l) (h2 : l ≤ 9223372036854775807) (h : Bf w base p O A) :
    Calls Tryz.prog 61 #[.pointer p, .agg #[.int .i64 s, .int .i64 o, .int .i64 l], .int .i64 i] w fun e w' => e = .returned (.tuple #[.int .u8 (byV s o l i O A), .int .i64 (byE s o l i O A)]) ∧ Below w.heap.size w w' := by
  cases hd : hdB s o l O A with
  | false =>
    have e1 : byV s o l i O A = 0 := by unfold byV; rw [hd]; simp
    have e2 : byE s o l i O A = 10 := by unfold byE; rw [hd]; simp
    rw [e1, e2]; exact byte_no p s o l i O A base w h1 h2 hd h
  | true =>
    by_cases hi : i < 0
    · have e1 : byV s o l i O A = 0 := by unfold byV; rw [if_neg (by omega)]
      have e2 : byE s o l i O A = 2 := by unfold byE; rw [hd, if_neg (by simp), if_pos (.inl hi)]
      rw [e1, e2]; exact byte_low p s o l i O A base w h1 h2 hd hi h
    · by_cases hl : l ≤ i
      · have e1 : byV s o l i O A = 0 := by unfold byV; rw [if_neg (by omega)]
        have e2 : byE s o l i O A = 2 := by unfold byE; rw [hd, if_neg (by simp), if_pos (.inr hl)]
        rw [e1, e2]; exact byte_high p s o l i O A base w h1 h2 hd (by omega) hl h
      · have e1 : byV s o l i O A = ((at8 (cutL s o l O A) i.toNat).toNat : Int) := by unfold byV; rw [if_pos ⟨hd, by omega, by omega⟩]
        have e2 : byE s o l i O A = 0 := by unfold byE; rw [hd, if_neg (by simp), if_neg (by omega)]
        rw [e1, e2]
        obtain ⟨o', l', rfl, rfl, hs, hh, _⟩ := hd_parts hd
        obtain ⟨i', rfl⟩ := Int.eq_ofNat_of_zero_le (show 0 ≤ i by omega)
        exact byte_yes p s o' l' i' O A base w hs hh (by omega) h

theorem lines_all (p : Option Addr) (s o l : Int) (O A : List UInt8) (base : Nat) (w : World) (h1 : -9223372036854775808 ≤ l) (h2 : l ≤ 9223372036854775807) (h : Bf w base p O A) :
    Calls Tryz.prog 49 #[.pointer p, .agg #[.int .i64 s, .int .i64 o, .int .i64 l]] w fun e w' => e = .returned (.tuple #[.int .i64 (lnV s o l O A), .int .i64 (lnE s o l O A)]) ∧ Below w.heap.size w w' := by
  cases hd : hdB s o l O A with
  | false =>
    have e1 : lnV s o l O A = 0 := by unfold lnV; rw [hd]; simp
    have e2 : lnE s o l O A = 10 := by unfold lnE; rw [hd]; simp
    rw [e1, e2]; exact lines_no p s o l O A base w h1 h2 hd h
  | true =>
    have e1 : lnV s o l O A = (nl (cutL s o l O A) : Int) := by unfold lnV; rw [if_pos hd]
    have e2 : lnE s o l O A = 0 := by unfold lnE; rw [if_pos hd]
    rw [e1, e2]
    obtain ⟨o', l', rfl, rfl, hs, hh, _⟩ := hd_parts hd
    exact lines_yes p s o' l' O A base w hs hh h

theorem lineAt_all (p : Option Addr) (s o l n : Int) (O A : List UInt8) (base : Nat) (w : World) (h1 : -9223372036854775808 ≤ l) (h2 : l ≤ 9223372036854775807) (h3 : n ≤ 9223372036854775807) (h : Bf w base p O A) :
    Calls Tryz.prog 64 #[.pointer p, .agg #[.int .i64 s, .int .i64 o, .int .i64 l], .int .i64 n] w fun e w' => e = .returned (.tuple #[.int .i64 (laV s o l n O A), .int .i64 (laE s o l n O A)]) ∧ Below w.heap.size w w' := by
  cases hd : hdB s o l O A with
  | false =>
    have e1 : laV s o l n O A = 0 := by unfold laV; rw [hd]; simp
    have e2 : laE s o l n O A = 10 := by unfold laE; rw [hd]; simp
    rw [e1, e2]; exact lineAt_no p s o l n O A base w h1 h2 hd h
  | true =>
    by_cases hi : n < 0
    · have e1 : laV s o l n O A = 0 := by unfold laV; rw [if_neg (by omega)]
      have e2 : laE s o l n O A = 2 := by unfold laE; rw [hd, if_neg (by simp), if_pos (.inl hi)]
      rw [e1, e2]; exact lineAt_low p s o l n O A base w h1 h2 hd hi h
    · obtain ⟨n', rfl⟩ := Int.eq_ofNat_of_zero_le (show 0 ≤ n by omega)
      obtain ⟨o', l', rfl, rfl, hs, hh, _⟩ := hd_parts hd
      by_cases hl : (nl (cutL s o' l' O A) : Int) ≤ (n' : Int)
      · have e1 : laV s o' l' n' O A = 0 := by unfold laV; rw [if_neg (by omega)]
        have e2 : laE s o' l' n' O A = 2 := by unfold laE; rw [hd, if_neg (by simp), if_pos (.inr hl)]
        rw [e1, e2]; exact lineAt_high p s o' l' n' O A base w hs hh (by omega) (show nl (cutL s o' l' O A) ≤ n' by omega) h
      · obtain ⟨q, hq1, hq2⟩ := endsTo_at (cutL s o' l' O A) (cutL s o' l' O A).length n' (Nat.le_refl _) (by rw [List.take_length]; omega)
        have e1 : laV s o' l' n' O A = (q : Int) := by unfold laV; rw [if_pos ⟨hd, by omega, by omega⟩, Int.toNat_natCast]; simp [List.getD, hq1]
        have e2 : laE s o' l' n' O A = 0 := by unfold laE; rw [hd, if_neg (by simp), if_neg (by omega)]
        rw [e1, e2]
        exact lineAt_yes p s o' l' n' q O A base w hs hh (by omega) hq2 h
end Go.Proofs.YtmhpeppbhjpkiaaGreat.Ab

