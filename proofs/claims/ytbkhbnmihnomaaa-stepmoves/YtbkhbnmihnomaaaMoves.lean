/- The walk of quoinlaw07.StepMoves: it answers true for every text and all questions. -/
import Derived.Test.YtbkhbnmihnomaaaRm
import Derived.Test.YtbkhbnmihnomaaaLent
namespace Go.Proofs.Ytbkhbnmihnomaaa
open Go.RowKit

/-- question number t of a list -/
structure Qn where
  at' : Int
  want : Int
  cnt : Int
  key : ByteArray
/-- The value '.slice bo m d' reads as m questions. -/
structure Qs (w : World) (bo : Option Addr) (m : Nat) (A : Nat → Qn) : Prop where
  big : m ≤ 140737488355328
  hi : ∀ t, t < m → (A t).want ≤ 9223372036854775807
  cells : ∀ t, t < m → ∃ g o, bo = some ⟨g, o, none⟩ ∧ w.cell? ⟨g, o + t * 4, none⟩ = some (.int .i64 (A t).at') ∧ w.cell? ⟨g, o + t * 4 + 1, none⟩ = some (.int .i64 (A t).want) ∧ w.cell? ⟨g, o + t * 4 + 2, none⟩ = some (.int .i64 (A t).cnt) ∧ w.cell? ⟨g, o + t * 4 + 3, none⟩ = some (.string (A t).key)
theorem Qs.keep {w w' : World} {bo : Option Addr} {m : Nat} {A : Nat → Qn} (h : Qs w bo m A) (hb : Below w.heap.size w w') : Qs w' bo m A :=
  ⟨h.big, h.hi, fun t ht => by
    obtain ⟨g, o, h0, h1, h2, h3, h4⟩ := h.cells t ht
    exact ⟨g, o, h0, by rw [hb.cell (lt_of_cell h1)]; exact h1, by rw [hb.cell (lt_of_cell h2)]; exact h2, by rw [hb.cell (lt_of_cell h3)]; exact h3, by rw [hb.cell (lt_of_cell h4)]; exact h4⟩⟩

set_option maxRecDepth 4000 in
set_option maxHeartbeats 4000000 in
theorem stepMoves_walk (ao : Option Addr) (n c : Nat) (l : List UInt8) (bo : Option Addr) (m d : Nat) (A : Nat → Qn) (w : World) (hn : n ≤ 140737488351232) (HT : Hid (Tx w ao n c l)) (HQ : Hid (Qs w bo m A)) :
    Calls Try.prog 3 #[.slice ao n c, .slice bo m d] w fun e w' => e = .returned (.bool true) ∧ Below w.heap.size w w' := by
  have hlen := Hid.mk' HT.out.len
  have hmb : (m : Int) ≤ 140737488355328 := by have := HQ.out.big; omega
  go_enter Try.func3, Try.ntmps3
  go_wp2_with fail
  refine (awake_any _).mono ?_
  rintro e w0 ⟨rfl, hb0⟩
  have B0 := Hid.mk' hb0
  clear hb0
  go_wp2_with fail
  refine (lent_any ao n c l _ hn (Hid.mk' (HT.out.keep B0.out))).mono ?_
  rintro e w1 ⟨g, cap, rfl, hO, hb1⟩
  have HO := Hid.mk' hO
  have B1 := Hid.mk' (bT B0.out hb1)
  clear hO hb1 B0
  go_wp2_with fail
  go_loopw [20] (fun u wr => ∃ i : Nat, u = .int .i64 i ∧ i ≤ m ∧ Below w1.heap.size w1 wr) (fun u _ => m - (intOf u).toNat)
  case atStart => exact ⟨0, rfl, Nat.zero_le _, Below.refl _ _⟩
  case round =>
    obtain ⟨i, rfl, hi, hB⟩ := hrel
    have HB := Hid.mk' hB
    have BW := Hid.mk' (bT B1.out hB)
    clear hB
    have TR := Hid.mk' (HT.out.keep BW.out)
    have OR := Hid.mk' (own_keep HO.out HB.out)
    have TI := Hid.mk' (lent_tx hlen.out (by omega) OR.out)
    have hi0 : (0 : Int) ≤ (i : Int) := by omega
    by_cases hlt : i < m
    · obtain ⟨gq, oq, rfl, c0, c1, c2, c3⟩ := (HQ.out.keep BW.out).cells i hlt
      have hhi := HQ.out.hi i hlt
      generalize A i = a at *
      obtain ⟨a0, a1, a2, a3⟩ := a
      dsimp only at c0 c1 c2 c3 hhi
      have him : (i : Int) < (m : Int) := by omega
      go_wp2_with fail
      refine (rmove_any ao n c a0 a1 a2 l a3 _ hhi (Hid.mk' (TR.out.keep (bAlloc (Below.refl _ _) _)))).mono ?_
      rintro e w2 ⟨rfl, hb2⟩
      rw [mvE_def]
      have d0 : w2.cell? ⟨wr.heap.size, 0, none⟩ = some (.int .i64 a0) := by rw [(bcell hb2).1 _ _ (by simp)]; simp [go_sem]
      have d1 : w2.cell? ⟨wr.heap.size, 1, none⟩ = some (.int .i64 a1) := by rw [(bcell hb2).1 _ _ (by simp)]; simp [go_sem]
      have d2 : w2.cell? ⟨wr.heap.size, 2, none⟩ = some (.int .i64 a2) := by rw [(bcell hb2).1 _ _ (by simp)]; simp [go_sem]
      have d3 : w2.cell? ⟨wr.heap.size, 3, none⟩ = some (.string a3) := by rw [(bcell hb2).1 _ _ (by simp)]; simp [go_sem]
      have hz2 : wr.heap.size < w2.heap.size := by have := hb2.size; simp at this; omega
      have B2 := Hid.mk' (bT (bAlloc (Below.refl wr.heap.size wr) _) hb2)
      clear hb2 c0 c1 c2 c3
      obtain ⟨M, hM⟩ : ∃ M, M = mv l a0 a1 a2 a3 := ⟨_, rfl⟩
      rw [← hM]
      have HM := Hid.mk' hM
      clear hM
      obtain ⟨x0, x1, x2, x3, x4⟩ := M
      dsimp only
      go_wp2_with fail
      refine (move_any (some ⟨g, 0, none⟩) n cap a0 a1 a2 l a3 _ hhi (Hid.mk' (TI.out.keep (bAlloc B2.out _)))).mono ?_
      rintro e w3 ⟨rfl, hb3⟩
      rw [← HM.out, mvE_def]
      have e0 : w3.cell? ⟨w2.heap.size, 0, none⟩ = some (.int .i64 x0) := by rw [(bcell hb3).1 _ _ (by simp)]; simp [go_sem]
      have e1 : w3.cell? ⟨w2.heap.size, 1, none⟩ = some (.int .i64 x1) := by rw [(bcell hb3).1 _ _ (by simp)]; simp [go_sem]
      have e2 : w3.cell? ⟨w2.heap.size, 2, none⟩ = some (.int .i64 x2) := by rw [(bcell hb3).1 _ _ (by simp)]; simp [go_sem]
      have hz3 : w2.heap.size < w3.heap.size := by have := hb3.size; simp at this; omega
      have B3 := Hid.mk' (bT (bAlloc B2.out _) hb3)
      clear hb3 d0 d1 d2 d3
      dsimp only
      go_wp2
      go_roundw
      case rel => exact ⟨i + 1, by go_num, by omega, bT HB.out (bAlloc B3.out _)⟩
      case measure => first | (simp [intOf]; done) | (simp [intOf]; omega)
    · have him : ¬ ((i : Int) < (m : Int)) := by omega
      go_wp2_with fail
      refine (whole_any g cap ao n c _ l _ hn TR OR).mono ?_
      rintro e w9 ⟨rfl, hw⟩
      have hqq := hw.symm
      subst hqq
      clear hw
      go_wp2
      go_ret
      exact ⟨rfl, BW.out⟩
end Go.Proofs.Ytbkhbnmihnomaaa
