/- Compile. -/
import Derived.Test.YtaakgoojcogbcaaThg
namespace Go.Proofs.Ytaakgoojcogbcaa
open Go.RowKit
/-- a compiled pattern in memory -/
def Pat (base : Nat) (W : World) (P : Nat) (l : List Th) : Prop := base ≤ P ∧ ∃ tv, Blk W P 67 #[tv] ∧ W.ownsRow base 120 1 tv l.length (ev l)
theorem Pat.keep {base : Nat} {W W' : World} {P : Nat} {l : List Th} (h : Pat base W P l) (hb : Below W.heap.size W W') : Pat base W' P l := by
  obtain ⟨h0, tv, h1, h2⟩ := h
  exact ⟨h0, tv, h1.keep hb, own_keep h2 hb⟩
/-- what Compile answers -/
def Cmpd (w : World) (p : List UInt8) (e : Ending) (w' : World) : Prop :=
  Below w.heap.size w w' ∧ ((256 < p.length ∧ e = .returned (.tuple #[.pointer none, .int .i64 0, .int .i64 1])) ∨
    (p.length ≤ 256 ∧ (cmp p).1 ≠ -1 ∧ e = .returned (.tuple #[.pointer none, .int .i64 (cmp p).1, .int .i64 110])) ∨
    (p.length ≤ 256 ∧ (cmp p).1 = -1 ∧ (cmp p).2.length ≤ p.length ∧ ∃ P, e = .returned (.tuple #[.pointer (some ⟨P, 0, none⟩), .int .i64 0, .int .i64 0]) ∧ Pat w.heap.size w' P (cmp p).2))
theorem rdA_stop {p : List UInt8} {m i : Nat} {l : List Th} (h : ¬ i < p.length) : rdA p m i l = (-1, l) := by
  cases m with
  | zero => rfl
  | succ m => unfold rdA; rw [if_neg h]
theorem rdA_go {p : List UInt8} {m i : Nat} {l : List Th} (h : i < p.length) : rdA p (m + 1) i l = if (rd1 p i l).1 = -1 then rdA p m (rd1 p i l).2.1 (rd1 p i l).2.2 else ((rd1 p i l).1, []) := by
  conv => lhs; unfold rdA
  rw [if_pos h]

set_option maxRecDepth 8000 in
set_option maxHeartbeats 8000000 in
theorem compile_any (ao : Option Addr) (n c : Nat) (p : List UInt8) (w : World) (HT : Hid (Tx w ao n c p)) :
    Calls Try.prog 12 #[.slice ao n c] w fun e w' => Cmpd w p e w' := by
  have hn : p.length = n := HT.out.len
  by_cases h256 : 256 < n
  · have h' : (256 : Int) < (n : Int) := by omega
    go_enter Try.func12, Try.ntmps12
    go_wp2
    refine bodyPost_ret (results_tmp3 rfl _ _ _) rfl ?_
    exact ⟨Below.refl _ _, .inl ⟨by omega, rfl⟩⟩
  · have h' : ¬ ((256 : Int) < (n : Int)) := by omega
    obtain ⟨R, HR⟩ : ∃ R, Hid (cmp p = R) := ⟨_, rfl⟩
    go_enter Try.func12, Try.ntmps12
    go_wp2_with fail
    go_loopg [6] n (fun m x6 wx => ∃ (i : Nat) (l : List Th) (tv : Value), i ≤ n ∧ n ≤ m + i ∧ l.length ≤ i ∧ Hid (Rd w wx w.heap.size tv ao n c i l) ∧ Hid (rdA p m i l = R))
    case atStart =>
      refine ⟨0, [], .slice none 0 0, by omega, by omega, Nat.le_refl _, ⟨bAlloc (Below.refl _ _) _, Nat.le_refl _, Blk.new _ _ _, rfl, .inl ⟨rfl, rfl⟩⟩, ?_⟩
      have := HR.out
      unfold cmp at this
      rw [hn] at this
      exact this
    case round =>
      obtain ⟨i, l, tv, hi, hm, hl, H, HA⟩ := hrel
      obtain ⟨ax, cx, etv⟩ := own_shape H.out.own
      subst etv
      have c1 : wr.cell? ⟨w.heap.size, 1, none⟩ = some (.int .i64 (i : Int)) := H.out.blk.cell (j := 1) rfl
      have c2 : wr.cell? ⟨w.heap.size, 2, none⟩ = some (.slice ax l.length cx) := H.out.blk.cell (j := 2) rfl
      by_cases hin : i < n
      · have hin' : (i : Int) < (n : Int) := by omega
        obtain ⟨g, o, e1, _⟩ := tx_cell HT.out H.out.bel hin
        subst e1
        obtain ⟨m, hmm⟩ : ∃ m, gk = m + 1 := ⟨gk - 1, by omega⟩
        subst hmm
        have hr := rd1_ok (p := p) (i := i) (l := l) (by omega) hl
        have hA := HA.out
        rw [rdA_go (by omega)] at hA
        have HT1 := Hid.mk' (thing_any w wr w.heap.size _ g o n c i p l (by omega) (by omega) hin hn (by omega) HT H)
        obtain ⟨⟨f, i', l'⟩, hrd⟩ : ∃ r, rd1 p i l = r := ⟨_, rfl⟩
        rw [hrd] at hr hA HT1
        dsimp only at hr hA
        clear hrd HA
        obtain ⟨hr1, hr2, hr3, hr4, hr5⟩ := hr
        by_cases hf : f = -1
        · subst hf
          have hr6 := hr2 rfl
          clear hr2
          rw [if_pos rfl] at hA
          have HA2 := Hid.mk' hA
          clear hA
          go_wp2_with fail
          refine HT1.out.mono ?_
          rintro e w3 ⟨he, hx⟩
          subst he
          go_wp2_with fail
          obtain ⟨tv', hR⟩ := hx
          clear HT1
          go_roundg m
          case measure => omega
          case rel => exact ⟨i', l', tv', by omega, by omega, hr4, hR, HA2.out⟩
        · rw [if_neg hf] at hA
          have HA2 := Hid.mk' hA
          clear hA
          have hf' : (f != -1) = true := by simpa using hf
          go_wp2_with fail
          refine HT1.out.mono ?_
          rintro e w3 ⟨he, hx⟩
          subst he
          go_wp2_with fail
          obtain ⟨tv', hR⟩ := hx
          refine bodyPost_ret (results_tmp3 rfl _ _ _) rfl ?_
          refine ⟨hR.bel, .inr (.inl ⟨by omega, ?_, ?_⟩)⟩
          · rw [HR.out, ← HA2.out]; exact hf
          · rw [HR.out, ← HA2.out]; rfl
      · have hin' : ¬ ((i : Int) < (n : Int)) := by omega
        have hA := HA.out
        rw [rdA_stop (by omega)] at hA
        have HA2 := Hid.mk' hA
        clear hA HA
        go_wp2
        refine bodyPost_ret (results_tmp3 rfl _ _ _) rfl ?_
        refine ⟨bAlloc H.out.bel _, .inr (.inr ⟨by omega, by rw [HR.out, ← HA2.out], by rw [HR.out, ← HA2.out]; show l.length ≤ _; omega, wr.heap.size, rfl, H.out.bel.size, _, Blk.new _ _ _, ?_⟩)⟩
        rw [HR.out, ← HA2.out]
        exact own_keep H.out.own (bAlloc (Below.refl _ _) _)
end Go.Proofs.Ytaakgoojcogbcaa
