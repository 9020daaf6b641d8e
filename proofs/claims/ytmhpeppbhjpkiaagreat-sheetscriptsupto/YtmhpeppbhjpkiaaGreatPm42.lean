/- asked, a part. -/
import Derived.Test.YtmhpeppbhjpkiaaGreatPm41
namespace Go.Proofs.YtmhpeppbhjpkiaaGreat
open Go.RowKit

set_option maxRecDepth 8000 in
set_option maxHeartbeats 2000000 in
theorem asked3_no (sb : Nat) (T : List UInt8) (ta : Option Addr) (tc : Nat) (x y : Int) (vp ve : Value) (W : World) (hQ : Hid (Aq W sb T)) (hx : x < 0 ∨ y < x ∨ (T.length : Int) < y) :
    Calls Tryz.prog 10 #[.pointer (some ⟨sb, 0, none⟩), .slice ta T.length tc, .agg #[.int .i64 3, .int .i64 x, .int .i64 y, vp, ve]] W fun e' w' => e' = .returned (.bool true) ∧ Below W.heap.size W w' := by
  have HB := hid (fun (X : Obj) => hQ.out.slno x y hx _ (bAlloc (Below.refl _ _) X))
  have hd : Hid (decide (x < 0) = true ∨ (decide (x < 0) = false ∧ decide (y < x) = true) ∨ (decide (x < 0) = false ∧ decide (y < x) = false ∧ decide ((T.length : Int) < y) = true)) := by
    unfold Hid; by_cases h : x < 0
    · simp [h]
    · by_cases h' : y < x
      · simp [h, h']
      · right; right; simp; omega
  clear hx
  go_enter Tryz.func10, Tryz.ntmps10
  go_wp2_with fail
  refine (HB.out _).mono ?_
  rintro e9 w9 ⟨rfl, b9⟩
  obtain ⟨c1, c2⟩ := qbox b9
  have B9 := hid (bT (bAlloc (Below.refl _ _) _) b9)
  clear b9
  rcases hd.out with h | ⟨h, h'⟩ | ⟨h, h', h''⟩
  all_goals
    clear hd
    go_wp2
    go_ret
    exact ⟨rfl, B9.out⟩

/-- a part of what can be read can be read -/
theorem rd_part {W : World} {ta : Option Addr} {c x y : Nat} {T : List UInt8} (h : Ab.Rd W (.slice ta T.length c) T) (hxy : x ≤ y) (hy : y ≤ T.length) (hne : ¬ c = x) (c' : Nat) : Ab.Rd W (.slice (Option.map (fun a => a.add x) ta) (y - x) c') ((T.drop x).take (y - x)) := by
  have hl : ((T.drop x).take (y - x)).length = y - x := by simp; omega
  rcases h with ⟨h0, _⟩ | ⟨ad, c2, h0, hcl⟩
  · simp only [Value.slice.injEq] at h0
    omega
  · simp only [Value.slice.injEq] at h0
    obtain ⟨rfl, -, -⟩ := h0
    refine .inr ⟨ad.add x, c', by rw [hl]; rfl, fun j u hu => ?_⟩
    have hj : j < y - x := by
      rcases Nat.lt_or_ge j (y - x) with h | h
      · exact h
      · rw [List.getElem?_eq_none (by simp [Ab.bv]; omega)] at hu; cases hu
    have hsome : ∀ j (u : Value), (Ab.bv T)[j]? = some u → W.cell? (ad.add j) = some u := hcl
    obtain ⟨g, o, s⟩ := ad
    have h0 := hcl 0 (.int .u8 ((b8 T 0).toNat : Int)) (by simp [Ab.bv, b8, List.getD, show 0 < T.length by omega])
    have hs : s = none := by simpa [Addr.add] using World.cell?_spot h0
    subst hs
    have h1 : (Ab.bv T)[x + j]? = some u := by
      simp only [Ab.bv, List.map_take, List.map_drop, List.getElem?_take, List.getElem?_drop] at hu ⊢
      rwa [if_pos hj] at hu
    have h2 := hcl _ _ h1
    rw [add_at] at h2
    rw [add_at, add_at, Nat.add_assoc]
    exact h2
theorem rd_part0 {W : World} {ta : Option Addr} {c x y : Nat} {T : List UInt8} (h : Ab.Rd W (.slice ta T.length c) T) (hxy : x ≤ y) (hy : y ≤ T.length) (hc : T.length ≤ c) (he : c = x) : Ab.Rd W (.slice ta (y - x) 0) ((T.drop x).take (y - x)) := by
  subst he
  obtain rfl : y = c := by omega
  rw [Nat.sub_self, List.take_zero]
  rcases h with ⟨h0, _⟩ | ⟨ad, c2, h0, hcl⟩
  · simp only [Value.slice.injEq] at h0
    obtain ⟨rfl, -, -⟩ := h0
    exact .inl ⟨rfl, rfl⟩
  · simp only [Value.slice.injEq] at h0
    obtain ⟨rfl, -, -⟩ := h0
    exact .inr ⟨ad, 0, rfl, fun j u hu => by simp [Ab.bv] at hu⟩

set_option maxRecDepth 8000 in
set_option maxHeartbeats 2000000 in
theorem asked3_yes (sb : Nat) (T : List UInt8) (ta : Option Addr) (tc x y : Nat) (vp ve : Value) (W : World) (hQ : Hid (Aq W sb T)) (hR : Hid (Ab.Rd W (.slice ta T.length tc) T)) (hz : T.length ≤ 1048576) (hc : T.length ≤ tc) (hxy : x ≤ y) (hy : y ≤ T.length) :
    Calls Tryz.prog 10 #[.pointer (some ⟨sb, 0, none⟩), .slice ta T.length tc, .agg #[.int .i64 3, .int .i64 (x : Int), .int .i64 (y : Int), vp, ve]] W fun e' w' => e' = .returned (.bool true) ∧ Below W.heap.size W w' := by
  have HB := hid (fun (X : Obj) => hQ.out.slyes x y hxy hy _ (bAlloc (Below.refl _ _) X))
  have h1 : (0 : Int) ≤ (x : Int) := by omega
  have h2 : (x : Int) ≤ (y : Int) := by omega
  have h3 : (y : Int) ≤ (T.length : Int) := by omega
  have h4 : (y : Int) ≤ (tc : Int) := by omega
  go_enter Tryz.func10, Tryz.ntmps10
  go_wp2_with fail
  refine (HB.out _).mono ?_
  rintro e9 w9 ⟨ao, c9, rfl, o9, b9⟩
  obtain ⟨c1, c2⟩ := qbox b9
  have B9 := hid (bT (bAlloc (Below.refl _ _) _) b9)
  have hl : ((T.drop x).take (y - x)).length = y - x := by simp; omega
  have R9 : Hid (Ab.Rd w9 (.slice ao (y - x) c9) ((T.drop x).take (y - x))) := by
    unfold Hid
    exact Ab.own_rd (by rw [hl]; exact o9)
  have R8 := hid (hR.out.keep B9.out)
  clear b9 o9 hl
  by_cases htx : tc = x
  · have P0 := hid (rd_part0 R8.out hxy hy hc htx)
    go_wp2_with fail
    refine (same_yes _ _ _ w9 R9.out P0.out).mono ?_
    rintro e8 w8 ⟨rfl, b8⟩
    have B8 := hid (bT B9.out b8)
    clear b8
    go_wp2
    go_ret
    exact ⟨rfl, B8.out⟩
  · have P1 := hid (rd_part R8.out hxy hy htx (tc - x))
    go_wp2_with fail
    refine (same_yes _ _ _ w9 R9.out P1.out).mono ?_
    rintro e8 w8 ⟨rfl, b8⟩
    have B8 := hid (bT B9.out b8)
    clear b8
    go_wp2
    go_ret
    exact ⟨rfl, B8.out⟩
end Go.Proofs.YtmhpeppbhjpkiaaGreat

