/- The law's same, sameSpans and place. -/
import Derived.Test.YtpifjghhlcjedaaBackp
import Derived.Test.YtpifjghhlcjedaaPcs
import Derived.Deep.CutRange
namespace Go.Proofs.Ytpifjghhlcjedaa
open Go.RowKit

theorem spcs_at {L : List Pc} {m : Nat} {p : Pc} (h : L[m]? = some p) (i : Nat) (hi : i < 3) : (spcs L)[m * 3 + i]? = (spc p)[i]? := by
  have hlt := (List.getElem?_eq_some_iff.1 h).1
  have e : L = L.take m ++ p :: L.drop (m + 1) := by
    conv => lhs; rw [← List.take_append_drop m L]
    rw [List.drop_eq_getElem_cons hlt]
    obtain ⟨_, e⟩ := List.getElem?_eq_some_iff.1 h
    rw [e]
  have l1 : (spcs (L.take m)).length = m * 3 := by rw [spcs_length, List.length_take]; omega
  conv => lhs; rw [e]
  unfold spcs at l1 ⊢
  rw [List.flatMap_append, List.getElem?_append_right (by omega), l1, List.flatMap_cons, List.getElem?_append_left (by simp [spc]; omega)]
  congr 1
  omega

theorem own_span {w : World} {B n c : Nat} {ao : Option Addr} {L : List Pc} {m : Nat} {p : Pc} (h : w.ownsRow B 30 3 (.slice ao n c) n (spcs L)) (hp : L[m]? = some p) (hn : L.length = n) :
    ∃ g, ao = some ⟨g, 0, none⟩ ∧ w.cell? ⟨g, m * 3, none⟩ = some (.int .i64 p.s) ∧ w.cell? ⟨g, m * 3 + 1, none⟩ = some (.int .i64 p.o) ∧ w.cell? ⟨g, m * 3 + 2, none⟩ = some (.int .i64 p.l) := by
  have hlt := (List.getElem?_eq_some_iff.1 hp).1
  rcases h.2 with ⟨_, h0⟩ | ⟨g, cap, cur, e, _⟩
  · omega
  · cases e
    have hc := fun i (hi : i < 3) u (hu : (spc p)[i]? = some u) => h.cells (g := g) rfl (m * 3 + i) u (by rw [spcs_at hp i hi]; exact hu)
    have ad : ∀ j, (⟨g, 0, none⟩ : Addr).add j = ⟨g, j, none⟩ := fun j => by unfold Addr.add; split <;> simp_all
    refine ⟨g, rfl, ?_, ?_, ?_⟩
    · have := hc 0 (by omega) _ rfl
      rwa [ad] at this
    · have := hc 1 (by omega) _ rfl
      rwa [ad] at this
    · have := hc 2 (by omega) _ rfl
      rwa [ad] at this

set_option maxRecDepth 100000 in
set_option maxHeartbeats 2000000 in
theorem sameSpans_any (a1 : Option Addr) (c1 : Nat) (a2 : Option Addr) (c2 B1 B2 n : Nat) (L M : List Pc) (w : World) (hz : n ≤ 1048576) (hL : Hid (L.length = n)) (hM : Hid (L.map span = M.map span)) (h1 : Hid (w.ownsRow B1 30 3 (.slice a1 n c1) n (spcs L))) (h2 : Hid (w.ownsRow B2 30 3 (.slice a2 n c2) n (spcs M))) :
    Calls Try.prog 43 #[.slice a1 n c1, .slice a2 n c2] w fun e w' => e = .returned (.bool true) ∧ Below w.heap.size w w' := by
  go_enter Try.func43, Try.ntmps43
  go_wp2
  go_loopw [13] (fun i wq => ∃ m : Nat, m ≤ n ∧ i = .int .i64 m ∧ Below w.heap.size w wq) (fun i _ => n - (intOf i).toNat)
  case atStart => exact ⟨0, Nat.zero_le _, rfl, Below.refl _ _⟩
  case round =>
    obtain ⟨m, hm, rfl, hb⟩ := hrel
    have HB := hid hb
    clear hb
    by_cases hmt : m < n
    · have hl := hL.out
      obtain ⟨p, hp⟩ : ∃ p, L[m]? = some p := ⟨_, List.getElem?_eq_getElem (by omega)⟩
      have hl2 : M.length = n := by have := congrArg List.length hM.out; simp at this; omega
      obtain ⟨q, hq⟩ : ∃ q, M[m]? = some q := ⟨_, List.getElem?_eq_getElem (by omega)⟩
      have hpq : span p = span q := by
        have e := congrArg (fun X => X[m]?) hM.out
        simp only [List.getElem?_map, hp, hq, Option.map_some] at e
        exact Option.some.inj e
      obtain ⟨g1, rfl, r0, r1, r2⟩ := own_span (Ab.own_keep h1.out HB.out) hp hl
      obtain ⟨g2, rfl, q0, q1, q2⟩ := own_span (Ab.own_keep h2.out HB.out) hq hl2
      obtain ⟨s, o, l, nn⟩ := p
      obtain ⟨s', o', l', nn'⟩ := q
      simp only [span, Prod.mk.injEq] at hpq
      obtain ⟨rfl, rfl, rfl⟩ := hpq
      simp only at r0 r1 r2 q0 q1 q2
      have hm0 : (0 : Int) ≤ (m : Int) := by omega
      have hml : (m : Int) < (n : Int) := by omega
      clear hp hq hl hl2
      go_wp2
      go_region
      go_wp2
      go_roundw
      case rel => exact ⟨m + 1, by omega, by go_num, HB.out.drew⟩
      case measure => simp [intOf]; omega
    · obtain rfl : m = n := by omega
      go_wp2
      go_ret
      exact ⟨rfl, HB.out⟩

end Go.Proofs.Ytpifjghhlcjedaa
