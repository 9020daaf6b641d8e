/- The contract of (*Buffer).held: the bytes of a span that the buffer holds. -/
import Derived.Test.YtpifjghhlcjedaaAbHolds
namespace Go.Proofs.Ytpifjghhlcjedaa.Ab
open Go.RowKit

/-- The bytes of a span. -/
def cutL (s o l : Int) (O A : List UInt8) : List UInt8 := ((which s O A).drop o.toNat).take l.toNat

set_option maxHeartbeats 400000 in
theorem source_val (p : Option Addr) (k : Int) (O A : List UInt8) (base : Nat) (w : World) (h : Bf w base p O A) :
    ∃ ao c, w.ownsRow base 5 1 (.slice ao (which k O A).length c) (which k O A).length (bv (which k O A)) ∧
      ∀ w1, Below w.heap.size w w1 → Calls Try.prog 108 #[.pointer p, .int .i64 k] w1 fun e w' => e = .returned (.slice ao (which k O A).length c) ∧ w' = w1 := by
  rcases h with ⟨rfl, rfl, rfl⟩ | ⟨b, vo, va, rfl, hB⟩
  · have e0 : which k [] [] = [] := by unfold which; split <;> (try split) <;> rfl
    rw [e0]
    refine ⟨none, 0, World.ownsRow_nil _ _ _ _, fun w1 _ => ?_⟩
    clear e0
    go_enter Try.func108, Try.ntmps108
    go_wp2
    go_ret
    exact ⟨rfl, rfl⟩
  · have o0 : Hid (w.ownsRow base 5 1 vo O.length (bv O)) := hB.orig
    have o1 : Hid (w.ownsRow base 5 1 va A.length (bv A)) := hB.added
    obtain ⟨a0, n0, rfl⟩ := own_shape o0.out
    obtain ⟨a1, n1, rfl⟩ := own_shape o1.out
    by_cases k0 : k = 0
    · subst k0
      have e0 : which 0 O A = O := by simp [which]
      rw [e0]
      refine ⟨a0, n0, o0.out, fun w1 hb => ?_⟩
      have c0 := (hB.keep hb).cell0
      clear e0 hB o0 o1 hb
      go_enter Try.func108, Try.ntmps108
      go_wp2
      go_ret
      exact ⟨rfl, rfl⟩
    · by_cases k1 : k = 1
      · subst k1
        have e0 : which 1 O A = A := by simp [which]
        rw [e0]
        refine ⟨a1, n1, o1.out, fun w1 hb => ?_⟩
        have c1 := (hB.keep hb).cell1
        clear e0 hB o0 o1 hb
        go_enter Try.func108, Try.ntmps108
        go_wp2
        go_ret
        exact ⟨rfl, rfl⟩
      · have e0 : which k O A = [] := by simp [which, k0, k1]
        rw [e0]
        refine ⟨none, 0, World.ownsRow_nil _ _ _ _, fun w1 hb => ?_⟩
        clear e0 hB o0 o1 hb
        go_enter Try.func108, Try.ntmps108
        go_wp2
        go_ret
        exact ⟨rfl, rfl⟩

theorem below_drewN (w : World) (n : Nat) : Below w.heap.size w (w.drewN n) := ⟨rfl, rfl, rfl, Nat.le_refl _, fun _ _ => rfl⟩

/-- A list whose bytes lie from offset o of block g on. -/
def RdB (W : World) (v : Value) (L : List UInt8) : Prop :=
  (v = .slice none 0 0 ∧ L = []) ∨ ∃ g o c, v = .slice (some ⟨g, o, none⟩) L.length c ∧ ∀ j u, (bv L)[j]? = some u → W.cell? ⟨g, o + j, none⟩ = some u

theorem RdB.rd {W : World} {v : Value} {L : List UInt8} (h : RdB W v L) : Rd W v L := by
  rcases h with h | ⟨g, o, c, rfl, h⟩
  · exact .inl h
  · refine .inr ⟨_, c, rfl, fun j u hu => ?_⟩
    have : (⟨g, o, none⟩ : Addr).add j = ⟨g, o + j, none⟩ := by unfold Addr.add; split <;> simp_all
    rw [this]; exact h j u hu

theorem rd_cut {W : World} {base g c o l k : Nat} {L : List UInt8} (h : W.ownsRow base 5 1 (.slice (some ⟨g, 0, none⟩) L.length c) L.length (bv L)) (hh : o + l ≤ L.length) :
    RdB W (.slice (some ⟨g, o, none⟩) l k) ((L.drop o).take l) := by
  have e : ((L.drop o).take l).length = l := by simp; omega
  refine .inr ⟨g, o, k, by rw [e], fun j u hu => ?_⟩
  have hj : j < l := by
    have := (List.getElem?_eq_some_iff.1 hu).1
    rw [bv_length, e] at this; exact this
  rw [h.cellAt (o + j) (by omega)]
  rw [← hu]
  simp [bv, hj]

theorem own_drewN {w : World} {base e size n : Nat} {v : Value} {xs : List Value} (h : w.ownsRow base e size v n xs) (m : Nat) : (w.drewN m).ownsRow base e size v n xs := own_keep h (below_drewN w m)

set_option maxHeartbeats 1000000 in
theorem held_any (p : Option Addr) (s : Int) (o l : Nat) (O A : List UInt8) (base : Nat) (w : World) (hh : o + l ≤ (which s O A).length) (h : Hid (Bf w base p O A)) :
    Calls Try.prog 112 #[.pointer p, .agg #[.int .i64 s, .int .i64 o, .int .i64 l]] w fun e w' => ∃ ao k, e = .returned (.slice ao l k) ∧ RdB w' (.slice ao l k) (cutL s o l O A) ∧ Below w.heap.size w w' := by
  obtain ⟨ao, c, hown, hcall⟩ := source_val p s O A base w h.out
  have hm := own_le hown
  unfold maxLen at hm
  have HO : Hid (w.ownsRow base 5 1 (.slice ao (which s O A).length c) (which s O A).length (bv (which s O A))) := hown
  have HC : Hid (∀ w1, Below w.heap.size w w1 → Calls Try.prog 108 #[.pointer p, .int .i64 s] w1 fun e w' => e = .returned (.slice ao (which s O A).length c) ∧ w' = w1) := hcall
  have HE : Hid (cutL s o l O A = ((which s O A).drop o).take l) := by unfold Hid cutL; simp
  clear hown hcall h
  generalize which s O A = L at *
  rcases HO.out.2 with ⟨hv, h0⟩ | ⟨g, cap, cur, hv, hg1, hg2, hg3, hg4, hg5, hg6⟩
  · have hv2 : ao = none ∧ c = 0 := by simp at hv; exact ⟨hv.1, hv.2.2⟩
    obtain ⟨rfl, rfl⟩ := hv2
    obtain rfl := List.eq_nil_of_length_eq_zero h0
    have ho : o = 0 := by simp at hh; omega
    have hl : l = 0 := by simp at hh; omega
    subst ho hl
    clear hv h0 hh hm
    go_enter Try.func112, Try.ntmps112
    go_wp2
    go_quiet ((go_at_call 108; exact Calls.quiet_of_same (HC.out _ ((bAlloc (Below.refl _ _) _).trans ((below_drewN _ _).mono (by simp))))))
    go_wp2
    go_ret
    exact ⟨none, 0, rfl, .inl ⟨rfl, by rw [HE.out]; rfl⟩, (bAlloc (Below.refl _ _) _).trans ((below_drewN _ _).mono (by simp))⟩
  · have hv2 : ao = some ⟨g, 0, none⟩ ∧ c = cap := by simpa using hv
    obtain ⟨rfl, rfl⟩ := hv2
    have hcap : (o : Int) + (l : Int) ≤ (c : Int) := by omega
    have hol : (o : Int) ≤ (o : Int) + (l : Int) := by omega
    clear hv hg1 hg2 hg5 hg6
    go_enter Try.func112, Try.ntmps112
    go_wp2
    go_quiet ((go_at_call 108; exact Calls.quiet_of_same (HC.out _ ((bAlloc (Below.refl _ _) _).trans ((below_drewN _ _).mono (by simp))))))
    go_wp2
    · go_ret
      have hl : l = 0 := by omega
      subst hl
      refine ⟨_, _, rfl, ?_, (bAlloc (Below.refl _ _) _).trans ((below_drewN _ _).mono (by simp))⟩
      rw [HE.out]
      have := rd_cut (k := 0) (own_drewN (HO.out.alloc (.cells #[.int .i64 s, .int .i64 o, .int .i64 (0 : Nat)] 30)) nq) (o := 0) (l := 0) (by omega)
      simpa using this
    · go_ret
      refine ⟨_, _, rfl, ?_, (bAlloc (Below.refl _ _) _).trans ((below_drewN _ _).mono (by simp))⟩
      rw [HE.out]
      exact rd_cut (own_drewN (HO.out.alloc _) nq) hh
end Go.Proofs.Ytpifjghhlcjedaa.Ab
