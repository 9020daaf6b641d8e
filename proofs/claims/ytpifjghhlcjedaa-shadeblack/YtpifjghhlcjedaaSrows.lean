/- The law's sameRows (of shade): two lists of the same rows. -/
import Derived.Test.YtpifjghhlcjedaaRows2
namespace Go.Proofs.Ytpifjghhlcjedaa
open Go.RowKit

theorem rcells_atS {L : List Rw} {m : Nat} {r : Rw} (h : L[m]? = some r) (i : Nat) (hi : i < 10) : (rcells L)[m * 10 + i]? = r.cs[i]? := by
  have hlt := (List.getElem?_eq_some_iff.1 h).1
  have e : L = L.take m ++ r :: L.drop (m + 1) := by
    conv => lhs; rw [← List.take_append_drop m L]
    rw [List.drop_eq_getElem_cons hlt]
    obtain ⟨_, e⟩ := List.getElem?_eq_some_iff.1 h
    rw [e]
  have l1 : (rcells (L.take m)).length = m * 10 := by rw [rcells_length, List.length_take]; omega
  conv => lhs; rw [e]
  unfold rcells at l1 ⊢
  rw [List.flatMap_append, List.getElem?_append_right (by omega), l1, List.flatMap_cons, List.getElem?_append_left (by simp [Rw.cs]; omega)]
  congr 1
  omega

/-- the ten cells of row number m -/
structure Ten (w : World) (g m : Nat) (r : Rw) : Prop where
  c0 : w.cell? ⟨g, m * 10, none⟩ = some (.int .i64 r.p.s)
  c1 : w.cell? ⟨g, m * 10 + 1, none⟩ = some (.int .i64 r.p.o)
  c2 : w.cell? ⟨g, m * 10 + 2, none⟩ = some (.int .i64 r.p.l)
  c3 : w.cell? ⟨g, m * 10 + 3, none⟩ = some (.int .i64 r.p.n)
  c4 : w.cell? ⟨g, m * 10 + 4, none⟩ = some (.bool r.red)
  c5 : w.cell? ⟨g, m * 10 + 5, none⟩ = some (.bool r.left)
  c6 : w.cell? ⟨g, m * 10 + 6, none⟩ = some (.bool r.right)
  c7 : w.cell? ⟨g, m * 10 + 7, none⟩ = some (.int .i64 r.cnt)
  c8 : w.cell? ⟨g, m * 10 + 8, none⟩ = some (.int .i64 r.byt)
  c9 : w.cell? ⟨g, m * 10 + 9, none⟩ = some (.int .i64 r.lin)

theorem own_ten {w : World} {B n c : Nat} {ao : Option Addr} {L : List Rw} {m : Nat} {r : Rw} (h : w.ownsRow B 53 10 (.slice ao n c) n (rcells L)) (hp : L[m]? = some r) (hn : L.length = n) :
    ∃ g, ao = some ⟨g, 0, none⟩ ∧ Ten w g m r := by
  have hlt := (List.getElem?_eq_some_iff.1 hp).1
  rcases h.2 with ⟨_, h0⟩ | ⟨g, cap, cur, e, _⟩
  · omega
  · cases e
    have hc := fun i (hi : i < 10) => (h.cellAt (m * 10 + i) (by omega)).trans (rcells_atS hp i hi)
    exact ⟨g, rfl, by simpa [Rw.cs] using hc 0 (by omega), by simpa [Rw.cs] using hc 1 (by omega), by simpa [Rw.cs] using hc 2 (by omega), by simpa [Rw.cs] using hc 3 (by omega), by simpa [Rw.cs] using hc 4 (by omega), by simpa [Rw.cs] using hc 5 (by omega), by simpa [Rw.cs] using hc 6 (by omega), by simpa [Rw.cs] using hc 7 (by omega), by simpa [Rw.cs] using hc 8 (by omega), by simpa [Rw.cs] using hc 9 (by omega)⟩

set_option maxRecDepth 100000 in
set_option maxHeartbeats 4000000 in
theorem sameRows_any (a1 : Option Addr) (c1 : Nat) (a2 : Option Addr) (c2 B1 B2 n : Nat) (L : List Rw) (w : World) (hz : n ≤ 1048576) (hL : Hid (L.length = n)) (h1 : Hid (w.ownsRow B1 53 10 (.slice a1 n c1) n (rcells L))) (h2 : Hid (w.ownsRow B2 53 10 (.slice a2 n c2) n (rcells L))) :
    Calls Try.prog 22 #[.slice a1 n c1, .slice a2 n c2] w fun e w' => e = .returned (.bool true) ∧ Below w.heap.size w w' := by
  go_enter Try.func22, Try.ntmps22
  go_wp2
  go_loopw [5] (fun i wq => ∃ m : Nat, m ≤ n ∧ i = .int .i64 m ∧ Below w.heap.size w wq) (fun i _ => n - (intOf i).toNat)
  case atStart => exact ⟨0, Nat.zero_le _, rfl, Below.refl _ _⟩
  case round =>
    obtain ⟨m, hm, rfl, hb⟩ := hrel
    have HB : Hid (Below w.heap.size w wr) := hb
    clear hb
    by_cases hmt : m < n
    · have hl := hL.out
      obtain ⟨p, hp⟩ : ∃ p, L[m]? = some p := ⟨_, List.getElem?_eq_getElem (by omega)⟩
      obtain ⟨g1, e1, r0, r1, r2, r3, r4, r5, r6, r7, r8, r9⟩ := own_ten h1.out hp hl
      obtain ⟨g2, e2, q0, q1, q2, q3, q4, q5, q6, q7, q8, q9⟩ := own_ten h2.out hp hl
      subst e1 e2
      have kk := bcell HB.out
      have hg1 : g1 < w.heap.size := (h1.out.lt g1 rfl).2
      have hg2 : g2 < w.heap.size := (h2.out.lt g2 rfl).2
      have k1 := fun o => kk.1 g1 o hg1
      have k2 := fun o => kk.1 g2 o hg2
      rw [← k1] at r0 r1 r2 r3 r4 r5 r6 r7 r8 r9
      rw [← k2] at q0 q1 q2 q3 q4 q5 q6 q7 q8 q9
      obtain ⟨⟨s, o, l, nn⟩, b1, b2, b3, x1, x2, x3⟩ := p
      simp only at r0 r1 r2 r3 r4 r5 r6 r7 r8 r9 q0 q1 q2 q3 q4 q5 q6 q7 q8 q9
      have hm0 : (0 : Int) ≤ (m : Int) := by omega
      have hml : (m : Int) < (n : Int) := by omega
      clear hp hl kk k1 k2
      go_wp2
      go_region
      go_wp2
      go_roundw
      case rel => exact ⟨m + 1, by omega, by go_num, HB.out.drew⟩
      case measure => simp [intOf]; omega
    · obtain rfl : m = n := by omega
      go_wp2
      go_ret
      exact ⟨rfl, HB.out⟩
end Go.Proofs.Ytpifjghhlcjedaa
