/- A slice of spans, opened, with its bulk. -/
import Derived.Test.YtjjgloioppjcaaaOpen
namespace Go.Proofs.Ytjjgloioppjcaaa
open Go.ChangeShapes Go.WideShapes Go.ChangeAt Go.RowKit Go.Deep

theorem bulk_one {H : Type} (d : DataW H) : 1 ≤ Rows.uptoBulk d := by
  cases d with
  | lit l => cases l <;> simp [Rows.uptoBulk]
  | _ => simp [Rows.uptoBulk]
theorem bulk_len {H : Type} : ∀ (l : List (DataW H)), l.length ≤ Rows.uptoBulkAll l
  | [] => by simp
  | d :: l => by
    have h1 := bulk_len l
    have h2 := bulk_one d
    simp only [List.length_cons, Rows.uptoBulkAll]
    omega

section
variable {H : Type} {enc : TypeId × Value → H} {W : World}
set_option maxRecDepth 100000 in
theorem open_spansU {v : Value} {d : DataW H} {p : List MemPlace} (h : DataW.Trod enc Try.prog W 0 (fun _ => true) true 22 v d p) (hv : ∃ a len cap, v = .slice a len cap) (hk : Rows.uptoBulk d ≤ 1048576) :
    ∃ ao c L, v = .slice ao (List.length L) c ∧ Rdb W (.slice ao L.length c) L ∧ Rng L ∧ L.length ≤ 1048576 := by
  obtain ⟨a, len, cap, rfl⟩ := hv
  obtain ⟨fuel, hf⟩ := h
  rcases open_slice Try.underlying22 hf with ⟨hcs, _⟩ | ⟨x, l', c, m, n, D, Pl, hcs, _, hl, hm, hmm, hx, hall⟩
  · simp [Value.cells] at hcs
    obtain ⟨rfl, rfl, rfl⟩ := hcs
    exact ⟨none, 0, [], rfl, ⟨_, _, _, rfl, rfl, Nat.le_refl _, .inl rfl⟩, fun p hp => by simp at hp, by simp⟩
  · simp [Value.cells] at hcs
    obtain ⟨rfl, rfl, rfl⟩ := hcs
    simp only [if_true] at hmm
    subst hmm
    have each : ∀ t, t < len → ∃ q : Sp, (∃ g off, x = ⟨g, off, none⟩ ∧ W.cell? ⟨g, off + t * 3, none⟩ = some (.int .i64 q.s) ∧ W.cell? ⟨g, off + t * 3 + 1, none⟩ = some (.int .i64 q.o) ∧ W.cell? ⟨g, off + t * 3 + 2, none⟩ = some (.int .i64 q.l)) ∧ q.l ≤ 9223372036854775807 := by
      intro t ht
      obtain ⟨cs', h1, h2⟩ := hall t (by omega)
      rw [cells39] at h1
      obtain ⟨_, hlen, hcell⟩ := World.cells?_some h1
      obtain ⟨s, o, l, rfl, b1, b2⟩ := open_span h2
      obtain ⟨g, off, spot⟩ := x
      have hspot : spot = none := by
        obtain ⟨cz, z1, z2⟩ := hall 0 (by omega)
        rw [cells39] at z1
        obtain ⟨_, zl, zc⟩ := World.cells?_some z1
        have h0 := zc 0 (by omega)
        rw [List.getElem?_eq_getElem (by omega)] at h0
        simpa [Addr.add] using World.cell?_spot h0
      subst hspot
      have hc : ∀ j, j < 3 → W.cell? ⟨g, off + t * 3 + j, none⟩ = [Value.int .i64 s, .int .i64 o, .int .i64 l][j]? := fun j hj => by
        have h0 := hcell j hj
        rw [add_add, Go.WideShapes.add_plain, ← Nat.add_assoc] at h0
        exact h0
      exact ⟨⟨s, o, l⟩, ⟨g, off, rfl, hc 0 (by omega), hc 1 (by omega), hc 2 (by omega)⟩, b2⟩
    have inh : Inhabited Sp := ⟨⟨0, 0, 0⟩⟩
    obtain ⟨q, hq⟩ := choose_lt each
    refine ⟨some x, m, (List.range len).map q, by simp, ⟨_, _, _, rfl, by simp, by simp; omega, ?_⟩, ?_, ?_⟩
    · by_cases h0 : len = 0
      · subst h0; exact .inl (by simp)
      · obtain ⟨⟨g, off, e, -⟩, -⟩ := hq 0 (by omega)
        refine .inr ⟨g, off, by rw [e], fun j p hj => ?_⟩
        have hj' : j < len := by have := (List.getElem?_eq_some_iff.1 hj).1; simpa using this
        have e2 : p = q j := by
          rw [List.getElem?_map, List.getElem?_range hj'] at hj
          simpa using hj.symm
        obtain ⟨⟨g', off', e', h1, h2, h3⟩, -⟩ := hq j hj'
        rw [e] at e'
        injection e' with e3 e4
        subst e3 e4 e2
        exact ⟨h1, h2, h3⟩
    · intro p hp
      obtain ⟨j, hj, rfl⟩ := List.mem_map.1 hp
      exact (hq j (by simpa using hj)).2
    · have hx1 := congrArg Prod.fst hx
      dsimp only at hx1
      rw [hx1] at hk
      have h2 := bulk_len ((List.range len).map D)
      simp only [List.length_map, List.length_range] at h2 ⊢
      simp only [Rows.uptoBulk] at hk
      omega
end
end Go.Proofs.Ytjjgloioppjcaaa
