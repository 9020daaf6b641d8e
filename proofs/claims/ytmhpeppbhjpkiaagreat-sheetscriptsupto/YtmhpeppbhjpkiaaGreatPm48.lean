/- asked, a line's start. -/
import Derived.Test.YtmhpeppbhjpkiaaGreatPm41
namespace Go.Proofs.YtmhpeppbhjpkiaaGreat
open Go.RowKit

set_option maxRecDepth 8000 in
set_option maxHeartbeats 2000000 in
theorem asked5_no (sb : Nat) (T : List UInt8) (ta : Option Addr) (tc : Nat) (x b : Int) (vp ve : Value) (W : World) (hQ : Hid (Aq W sb T)) (hR : Hid (Ab.Rd W (.slice ta T.length tc) T)) (hz : T.length ≤ 1048576) (hx : x < 0 ∨ (Ab.nl T : Int) < x) :
    Calls Tryz.prog 10 #[.pointer (some ⟨sb, 0, none⟩), .slice ta T.length tc, .agg #[.int .i64 5, .int .i64 x, .int .i64 b, vp, ve]] W fun e' w' => e' = .returned (.bool true) ∧ Below W.heap.size W w' := by
  have HS := hid (fun (X : Obj) => starts_any ta tc T (W.alloc X) hz (hid (hR.out.keep (bAlloc (Below.refl _ _) X))))
  have hl : (sts T T.length).length = Ab.nl T + 1 := by rw [sts_len T _ (Nat.le_refl _), List.take_length]
  rw [hl] at HS
  have HB := hid (fun W' (hW : Below W.heap.size W W') => hQ.out.stno x hx _ hW)
  have HL := hid (fun W' (hW : Below W.heap.size W W') => hQ.out.lines _ hW)
  have hd : Hid (decide (x < 0) = true ∨ (decide (x < 0) = false ∧ decide ((Ab.nl T : Int) + 1 ≤ x) = true)) := by
    unfold Hid; by_cases h : x < 0
    · simp [h]
    · right; simp; omega
  have hcast : ((Ab.nl T + 1 : Nat) : Int) = (Ab.nl T : Int) + 1 := by omega
  clear hx hl
  go_enter Tryz.func10, Tryz.ntmps10
  go_wp2_with fail
  refine (HS.out _).mono ?_
  rintro e9 w9 ⟨v, rfl, o9, b9⟩
  obtain ⟨ax, cx, rfl⟩ := own_shape o9
  obtain ⟨c1, c2⟩ := qbox b9
  have B9 := hid (bT (bAlloc (Below.refl _ _) _) b9)
  clear b9 c2 o9
  go_wp2_with fail
  refine (HB.out _ B9.out).mono ?_
  rintro e8 w8 ⟨rfl, b8⟩
  have c3 := cell_later b8 c1
  have B8 := hid (bT B9.out b8)
  clear b8 c1
  rcases hd.out with h | ⟨h, h'⟩
  all_goals
    clear hd
    go_wp2_with (go_at_call 30; refine (HL.out _ B8.out).mono ?_; rintro e7 w7 ⟨rfl, b7⟩; have B7 := hid (bT B8.out b7); clear b7)
    go_ret
    exact ⟨rfl, B7.out⟩

set_option maxRecDepth 8000 in
set_option maxHeartbeats 2000000 in
theorem asked5_yes (sb : Nat) (T : List UInt8) (ta : Option Addr) (tc x : Nat) (b : Int) (vp ve : Value) (W : World) (hQ : Hid (Aq W sb T)) (hR : Hid (Ab.Rd W (.slice ta T.length tc) T)) (hz : T.length ≤ 1048576) (hx : x ≤ Ab.nl T) :
    Calls Tryz.prog 10 #[.pointer (some ⟨sb, 0, none⟩), .slice ta T.length tc, .agg #[.int .i64 5, .int .i64 (x : Int), .int .i64 b, vp, ve]] W fun e' w' => e' = .returned (.bool true) ∧ Below W.heap.size W w' := by
  have HS := hid (fun (X : Obj) => starts_any ta tc T (W.alloc X) hz (hid (hR.out.keep (bAlloc (Below.refl _ _) X))))
  have hl : (sts T T.length).length = Ab.nl T + 1 := by rw [sts_len T _ (Nat.le_refl _), List.take_length]
  rw [hl] at HS
  have HB := hid (fun W' (hW : Below W.heap.size W W') => hQ.out.styes x hx _ hW)
  have HL := hid (fun W' (hW : Below W.heap.size W W') => hQ.out.lines _ hW)
  have h1 : (0 : Int) ≤ (x : Int) := by omega
  have h2 : (x : Int) < ((Ab.nl T + 1 : Nat) : Int) := by omega
  have hcast : ((Ab.nl T + 1 : Nat) : Int) = (Ab.nl T : Int) + 1 := by omega
  clear hl
  go_enter Tryz.func10, Tryz.ntmps10
  go_wp2_with fail
  refine (HS.out _).mono ?_
  rintro e9 w9 ⟨v, rfl, o9, b9⟩
  obtain ⟨ax, cx, rfl⟩ := own_shape o9
  obtain ⟨c1, c2⟩ := qbox b9
  have B9 := hid (bT (bAlloc (Below.refl _ _) _) b9)
  have O9 := hid o9
  clear b9 c2 o9
  go_wp2_with fail
  refine (HB.out _ B9.out).mono ?_
  rintro e8 w8 ⟨⟨q, hq, rfl⟩, b8⟩
  have c3 := cell_later b8 c1
  have hcell : ∃ g o, ax = some ⟨g, o, none⟩ ∧ w9.cell? ⟨g, o + x, none⟩ = some (.int .i64 (q : Int)) := by
    have hv : (ivs (sts T T.length))[x]? = some (.int .i64 (q : Int)) := by simp [ivs, hq]
    rcases O9.out.2 with ⟨_, h0⟩ | ⟨g, cap, cur, h0, _⟩
    · exact absurd h0 (by omega)
    · simp only [Value.slice.injEq] at h0
      obtain ⟨rfl, -, rfl⟩ := h0
      exact ⟨g, 0, rfl, by have := O9.out.cells rfl x _ hv; rwa [add_at] at this⟩
  obtain ⟨g, o, rfl, hc⟩ := hcell
  have c4 := cell_later b8 hc
  have B8 := hid (bT B9.out b8)
  clear b8 c1 hc hq
  rw [hcast] at h2
  go_wp2_with (go_at_call 30; refine (HL.out _ B8.out).mono ?_; rintro e7 w7 ⟨rfl, b7⟩; have B7 := hid (bT B8.out b7); clear b7)
  go_ret
  exact ⟨rfl, B7.out⟩
end Go.Proofs.YtmhpeppbhjpkiaaGreat

