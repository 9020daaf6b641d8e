/- The reference's paragraph, walked. -/
import Derived.Test.YtgdhdegmjljbfaaRps
namespace Go.Proofs.Ytgdhdegmjljbfaa
open Go.RowKit
theorem ra_eq (r : Option (Nat × Nat)) : ∃ F T E : Int, ra r = .returned (.tuple #[.agg #[.int .i64 F, .int .i64 T, .bool false], .int .i64 E]) := by
  cases r with
  | none => exact ⟨_, _, _, rfl⟩
  | some x => exact ⟨_, _, _, rfl⟩
set_option maxRecDepth 8000 in
set_option maxHeartbeats 16000000 in
theorem paragraph_any (ao : Option Addr) (n c k cnt : Nat) (a : Bool) (l : List UInt8) (w : World) (hn : n ≤ 4398046511103) (hk : k ≤ n) (hc1 : 1 ≤ cnt) (hc2 : cnt ≤ 9999) (HT : Hid (Tx w ao n c l)) :
    Calls Try.prog 23 #[.slice ao n c, .int .i64 (nl (l.take k) : Int), .int .i64 (cnt : Int), .bool a] w fun e w' => e = sel l k cnt 112 a ∧ Below w.heap.size w w' := by
  have hlen := HT.out.len
  have HSP := Hid.mk' (sel_p l k cnt a (by omega) hc1)
  have hR : (pr9 l).length ≤ 4398046511104 := by
    have e1 : (pr9 l).length = rm (ek l) (nl l + 1) := rl_len ..
    have := rm_le (ek l) (nl l + 1)
    have := nl_le l
    omega
  obtain ⟨p1, p2, p3⟩ := pr9_ix l k (by omega)
  have hI : ∀ x, (pr9 l)[ix (pr9 l) (nl (l.take k))]? = some x → x.1 ≤ nl (l.take k) := fun x hx => by
    rw [p1] at hx
    rw [show (pr9 l)[ix (pl l) k]? = _ from rl_at _ _ p2] at hx
    injection hx with hx
    subst hx
    exact p3
  have hap : ∀ j, gp (pr9 l) j = true → gp (pr9 l) (j + 1) = false := fun j h => rl_apart _ _ (fun x y h1 h2 => by unfold ek; rw [h1, h2]) h
  have CR := Hid.mk' (fun W (hb : Below w.heap.size w W) => rows_any ao n c l W hn (HT.out.keep hb))
  have CI := Hid.mk' (fun W base ao' c' (ho : W.ownsRow base 48 3 (.slice ao' (pr9 l).length c') (pr9 l).length (rvs (pr9 l))) => inner_any base ao' c' (pr9 l) (nl (l.take k)) cnt (ix (pr9 l) (nl (l.take k))) W hR hc1 hc2 (ix_fst _ _) hI ho)
  have CA := Hid.mk' (fun W base ao' c' (ho : W.ownsRow base 48 3 (.slice ao' (pr9 l).length c') (pr9 l).length (rvs (pr9 l))) => raround_any base ao' c' (pr9 l) (nl (l.take k)) cnt (ix (pr9 l) (nl (l.take k))) W hR hc1 hc2 (ix_fst _ _) hI hap ho)
  have HPP : Hid (pp l k cnt a = cx (pr9 l) (ix (pr9 l) (nl (l.take k))) cnt a) := rfl
  have CS := Hid.mk' (fun W (hb : Below w.heap.size w W) u (hu : u ≤ nl l) => rstart_at hu (HT.out.keep hb))
  clear hI hap p1 p2 p3
  generalize pr9 l = R at *
  generalize ix R (nl (l.take k)) = i at *
  generalize sel l k cnt 112 a = S at *
  rw [HPP.out] at HSP
  generalize nl (l.take k) = X0 at *
  have hnl := nl_le l
  go_enter Try.func23, Try.ntmps23
  go_wp2_with fail
  refine (CR.out _ (bAlloc (Below.refl _ _) _)).mono ?_
  rintro e w3 ⟨v, rfl, ho3, hb3⟩
  obtain ⟨av, cv, hv⟩ := own_shape ho3
  subst hv
  have K3 := Hid.mk' ((Blk.new w 29 #[.int .i64 0, .int .i64 0, .int .i64 0]).keep hb3)
  have O3 := Hid.mk' ho3
  have B3 := Hid.mk' (bT (bAlloc (Below.refl _ _) _) hb3)
  clear hb3 ho3 CR
  obtain ⟨F0, T0, E0, H0⟩ := ra_eq (cx R i cnt false)
  have H0 := Hid.mk' H0
  go_wp2_with fail
  refine (CI.out _ _ _ _ O3.out).mono ?_
  rintro e w4 ⟨he, hb4⟩
  rw [H0.out] at he
  subst he
  have K4 := Hid.mk' (K3.out.keep hb4)
  have O4 := Hid.mk' (own_keep O3.out hb4)
  have B4 := Hid.mk' (bT B3.out hb4)
  have B5 := Hid.mk' (bAlloc B4.out (.cells #[.int .i64 F0, .int .i64 T0, .bool false] 48))
  have K5 := Hid.mk' (K4.out.keep (bAlloc (Below.refl _ w4) (.cells #[.int .i64 F0, .int .i64 T0, .bool false] 48)))
  have KR5 := Hid.mk' (Blk.new w4 48 #[.int .i64 F0, .int .i64 T0, .bool false])
  have O5 := Hid.mk' (own_keep O4.out (bAlloc (Below.refl _ w4) (.cells #[.int .i64 F0, .int .i64 T0, .bool false] 48)))
  have hne : ¬ w.heap.size = w4.heap.size := by have := K4.out.lt; omega
  have hne' : ¬ w4.heap.size = w.heap.size := fun h => hne h.symm
  have hlt4 : w.heap.size < w4.heap.size := K4.out.lt
  clear hb4 K3 O3 B3
  cases a with
  | false =>
    have k0 : w4.cell? ⟨w.heap.size, 0, none⟩ = some (.int .i64 0) := K4.out.cell (j := 0) rfl
    have k1' : w4.cell? ⟨w.heap.size, 1, none⟩ = some (.int .i64 0) := K4.out.cell (j := 1) rfl
    have k2' : w4.cell? ⟨w.heap.size, 2, none⟩ = some (.int .i64 0) := K4.out.cell (j := 2) rfl
    have f9 := K4.out.frozen
    rcases HSP.out with ⟨q1, q2⟩ | ⟨u, v, q1, q2, q3, q4, q5⟩
    · rw [q1] at H0
      have h9 := H0.out
      unfold ra at h9
      simp only [Ending.returned.injEq, Value.tuple.injEq] at h9
      simp at h9
      obtain ⟨⟨rfl, rfl⟩, rfl⟩ := h9
      have Q2 := Hid.mk' q2
      clear q1 q2 H0
      go_wp2
      all_goals exact bodyPost_ret (v := .tuple #[.agg #[.int .i64 0, .int .i64 0, .int .i64 0], .int .i64 130]) (by simp [results, Try.results23, go_sem, k0, k1', k2', hlt4]) rfl ⟨by rw [Q2.out]; rfl, bAlloc (bset (bset (bset B4.out _ (Nat.le_refl _)) _ (Nat.le_refl _)) _ (Nat.le_refl _)) _⟩
    · rw [q1] at H0
      have h9 := H0.out
      unfold ra at h9
      simp only [Ending.returned.injEq, Value.tuple.injEq] at h9
      simp at h9
      obtain ⟨⟨rfl, rfl⟩, rfl⟩ := h9
      have Q5 := Hid.mk' q5
      have C1 := Hid.mk' (CS.out _ B5.out u q2)
      have C2 := Hid.mk' (CS.out _ B5.out (v - 1) q4)
      have hwv : IntKind.i64.wrap ((v : Int) - 1) = ((v - 1 : Nat) : Int) := by rw [IntKind.wrap_i64]; omega
      clear q1 q5 H0
      generalize v - 1 = v1 at *
      go_wp2_with fail
      refine C1.out.mono ?_
      rintro e w9 ⟨rfl, hw⟩
      have hq := hw.symm
      subst hq
      clear hw
      go_wp2_with fail
      refine C2.out.mono ?_
      rintro e w9 ⟨rfl, hw⟩
      have hq := hw.symm
      subst hq
      clear hw
      go_wp2
      all_goals exact bodyPost_ret (v := .tuple #[.agg #[.int .i64 (sp l u : Int), .int .i64 (sp l v1 : Int), .int .i64 3], .int .i64 0]) (by simp [results, Try.results23, go_sem, k0, k1', k2', hlt4]) rfl ⟨by rw [Q5.out]; rfl, bAlloc (bset (bset (bset B4.out _ (Nat.le_refl _)) _ (Nat.le_refl _)) _ (Nat.le_refl _)) _⟩
  | true =>
    obtain ⟨F1, T1, E1, H1⟩ := ra_eq (cx R i cnt true)
    have H1 := Hid.mk' H1
    go_wp2_with fail
    refine (CA.out _ _ _ _ O5.out).mono ?_
    rintro e w6 ⟨he, hb6⟩
    rw [H1.out] at he
    subst he
    have K6 := Hid.mk' (K5.out.keep hb6)
    have KR6 := Hid.mk' (KR5.out.keep hb6)
    have B6 := Hid.mk' (bT B5.out hb6)
    have k0 : w6.cell? ⟨w.heap.size, 0, none⟩ = some (.int .i64 0) := K6.out.cell (j := 0) rfl
    have k1' : w6.cell? ⟨w.heap.size, 1, none⟩ = some (.int .i64 0) := K6.out.cell (j := 1) rfl
    have k2' : w6.cell? ⟨w.heap.size, 2, none⟩ = some (.int .i64 0) := K6.out.cell (j := 2) rfl
    have f9 := K6.out.frozen
    have r0 : w6.cell? ⟨w4.heap.size, 0, none⟩ = some (.int .i64 F0) := KR6.out.cell (j := 0) rfl
    have r1 : w6.cell? ⟨w4.heap.size, 1, none⟩ = some (.int .i64 T0) := KR6.out.cell (j := 1) rfl
    have r2 : w6.cell? ⟨w4.heap.size, 2, none⟩ = some (.bool false) := KR6.out.cell (j := 2) rfl
    have f8 := KR6.out.frozen
    clear hb6 K4 O4 O5 K5 KR5 CA CI
    rcases HSP.out with ⟨q1, q2⟩ | ⟨u, v, q1, q2, q3, q4, q5⟩
    · rw [q1] at H1
      have h9 := H1.out
      unfold ra at h9
      simp only [Ending.returned.injEq, Value.tuple.injEq] at h9
      simp at h9
      obtain ⟨⟨rfl, rfl⟩, rfl⟩ := h9
      have Q2 := Hid.mk' q2
      clear q1 q2 H1
      go_wp2
      all_goals exact bodyPost_ret (v := .tuple #[.agg #[.int .i64 0, .int .i64 0, .int .i64 0], .int .i64 130]) (by simp [results, Try.results23, go_sem, k0, k1', k2']) rfl ⟨by rw [Q2.out]; rfl, bset (bset (bset (bset (bset (bset B6.out _ (Nat.le_of_lt hlt4)) _ (Nat.le_of_lt hlt4)) _ (Nat.le_of_lt hlt4)) _ (Nat.le_refl _)) _ (Nat.le_refl _)) _ (Nat.le_refl _)⟩
    · rw [q1] at H1
      have h9 := H1.out
      unfold ra at h9
      simp only [Ending.returned.injEq, Value.tuple.injEq] at h9
      simp at h9
      obtain ⟨⟨rfl, rfl⟩, rfl⟩ := h9
      have Q5 := Hid.mk' q5
      have B7 : Hid (Below w.heap.size w (((w6.setCell ⟨w4.heap.size, 0, none⟩ (.int .i64 (u : Int))).setCell ⟨w4.heap.size, 1, none⟩ (.int .i64 (v : Int))).setCell ⟨w4.heap.size, 2, none⟩ (.bool false))) := bset (bset (bset B6.out _ (Nat.le_of_lt hlt4)) _ (Nat.le_of_lt hlt4)) _ (Nat.le_of_lt hlt4)
      have C1 := Hid.mk' (CS.out _ B7.out u q2)
      have C2 := Hid.mk' (CS.out _ B7.out (v - 1) q4)
      have hwv : IntKind.i64.wrap ((v : Int) - 1) = ((v - 1 : Nat) : Int) := by rw [IntKind.wrap_i64]; omega
      clear q1 q5 H1
      generalize v - 1 = v1 at *
      go_wp2_with fail
      refine C1.out.mono ?_
      rintro e w9 ⟨rfl, hw⟩
      have hq := hw.symm
      subst hq
      clear hw
      go_wp2_with fail
      refine C2.out.mono ?_
      rintro e w9 ⟨rfl, hw⟩
      have hq := hw.symm
      subst hq
      clear hw
      go_wp2
      all_goals exact bodyPost_ret (v := .tuple #[.agg #[.int .i64 (sp l u : Int), .int .i64 (sp l v1 : Int), .int .i64 3], .int .i64 0]) (by simp [results, Try.results23, go_sem, k0, k1', k2']) rfl ⟨by rw [Q5.out]; rfl, bset (bset (bset B7.out _ (Nat.le_refl _)) _ (Nat.le_refl _)) _ (Nat.le_refl _)⟩
end Go.Proofs.Ytgdhdegmjljbfaa
