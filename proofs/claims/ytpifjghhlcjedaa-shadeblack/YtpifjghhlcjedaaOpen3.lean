/- A script opened, with a bound on its lists. -/
import Derived.Test.YtpifjghhlcjedaaOpen2
import Derived.SizedLaws
namespace Go.Proofs.Ytpifjghhlcjedaa
open Go.ChangeShapes Go.WideShapes Go.ChangeAt Go.RowKit Go.Deep

section
variable {H : Type} {enc : TypeId × Value → H} {W : World}


theorem mem_all {e : TypeId} : ∀ {ds : List (DataW H)} {d : DataW H} {n : Nat}, d ∈ ds → n ∈ d.weights Try.prog e → n ∈ DataW.weightsAll Try.prog e ds
  | x :: r, d, n, hd, hn => by
    unfold DataW.weightsAll
    rcases List.mem_cons.1 hd with rfl | hd
    · exact List.mem_append_left _ hn
    · exact List.mem_append_right _ (mem_all hd hn)
theorem bytes32 : Try.prog.bytesOf 32 = 32 := by kernel_rfl
theorem list_len {fuel : Nat} {v : Value} {x : DataW H × List MemPlace} {ao : Option Addr} {n c : Nat} (h : DataW.trod enc Try.prog W 0 (fun _ => true) true fuel 33 [v] = some x) (hv : v = .slice ao n c) (hw : ∀ k ∈ x.1.weights Try.prog 33, k ≤ reachBytes) : n ≤ 140737488355328 := by
  subst hv
  rcases open_slice Try.underlying33 h with ⟨hcs, _⟩ | ⟨a, len, cap, m, k, Dd, Pl, hcs, _, _, _, _, hx, _⟩
  · simp at hcs
    omega
  · simp at hcs
    obtain ⟨_, rfl, _⟩ := hcs
    subst hx
    have h1 := hw (((List.range n).map Dd).length * 32 + ((List.range (m - n)).map fun j => Dd (n + j)).length * 32) (by
      unfold DataW.weights
      rw [Try.underlying33]
      simp only [bytes32, Nat.add_mul]
      exact List.mem_cons_self)
    simp only [List.length_map, List.length_range, reachBytes] at h1
    omega
set_option maxRecDepth 100000 in
theorem step_len {fuel : Nat} {s : Stp} {x : DataW H × List MemPlace} (h : DataW.trod enc Try.prog W 0 (fun _ => true) true fuel 35 s.cs = some x) (hs : s.ok W) (hw : ∀ k ∈ x.1.weights Try.prog 35, k ≤ reachBytes) : s.l.length ≤ 140737488355328 := by
  obtain ⟨xs, n, -, rfl, hl, hxl, hf⟩ := DataW.trod_struct Try.underlying35 h
  have g5 := hf 5 { name := "List", type := 33, offset := 8, embedded := false, tag := "", pkgPath := "", byteOffset := 64 } rfl
  dsimp only at g5
  rw [cells33] at g5
  match xs, hxl with
  | [y0, y1, y2, y3, y4, y5], _ =>
    have g6 : DataW.trod enc Try.prog W 0 (fun _ => true) true n 33 [s.v] = some y5 := g5
    obtain ⟨ao, m, c, e, hn, _⟩ := hs.2.2.2.2.2
    rw [← hn]
    refine list_len g6 e fun k hk => hw k ?_
    unfold DataW.weights
    rw [Try.underlying35]
    exact DataW.weights_mem_each (j := 5) (t := 33) (d := y5.1) rfl rfl k hk

set_option maxRecDepth 100000 in
theorem open_steps2 {v : Value} {d : DataW H} {p : List MemPlace} (h : DataW.Trod enc Try.prog W 0 (fun _ => true) true 22 v d p) (hv : ∃ a len cap, v = .slice a len cap) (hw : ∀ n ∈ d.weights Try.prog 22, n ≤ reachBytes) :
    ∃ ao n c S, v = .slice ao n c ∧ n = S.length ∧ Rds W ao S ∧ ∀ st ∈ S, st.l.length ≤ 140737488355328 := by
  obtain ⟨a, len, cap, rfl⟩ := hv
  obtain ⟨fuel, hf⟩ := h
  rcases open_slice Try.underlying22 hf with ⟨hcs, _⟩ | ⟨x, l', c, m, n, D, Pl, hcs, _, hl, hm, hmm, hx, hall⟩
  · simp [Value.cells] at hcs
    obtain ⟨rfl, rfl, rfl⟩ := hcs
    exact ⟨none, 0, 0, [], rfl, rfl, .inl rfl, fun st h => by simp at h⟩
  · simp [Value.cells] at hcs
    obtain ⟨rfl, rfl, rfl⟩ := hcs
    simp only [if_true] at hmm
    subst hmm
    have each : ∀ t, t < len → ∃ q : Stp, ∃ g off, x = ⟨g, off, none⟩ ∧ q.ok W ∧ q.l.length ≤ 140737488355328 ∧ ∀ j, j < 9 → W.cell? ⟨g, off + t * 9 + j, none⟩ = q.cs[j]? := by
      intro t ht
      obtain ⟨cs', h1, h2⟩ := hall t (by omega)
      rw [cells35] at h1
      obtain ⟨_, hlen, hcell⟩ := World.cells?_some h1
      obtain ⟨q, rfl, hq⟩ := open_step h2
      have hql : q.l.length ≤ 140737488355328 := step_len h2 hq fun k hk => hw k (by
        have hd : d = .slice ((List.range len).map D) ((List.range (m - len)).map fun j => D (len + j)) := congrArg Prod.fst hx
        rw [hd]
        unfold DataW.weights
        rw [Try.underlying22]
        exact List.mem_cons_of_mem _ (List.mem_append_left _ (mem_all (List.mem_map.2 ⟨t, List.mem_range.2 ht, rfl⟩) hk)))
      obtain ⟨g, off, spot⟩ := x
      have hspot : spot = none := by
        obtain ⟨cz, z1, z2⟩ := hall 0 (by omega)
        rw [cells35] at z1
        obtain ⟨_, zl, zc⟩ := World.cells?_some z1
        have h0 := zc 0 (by omega)
        rw [List.getElem?_eq_getElem (by omega)] at h0
        simpa [Addr.add] using World.cell?_spot h0
      subst hspot
      refine ⟨q, g, off, rfl, hq, hql, fun j hj => ?_⟩
      have h0 := hcell j hj
      rw [add_add, Go.WideShapes.add_plain, ← Nat.add_assoc] at h0
      exact h0
    have inh : Inhabited Stp := ⟨⟨0, 0, 0, 0, ⟨0, 0, 0, 0⟩, .bool false, []⟩⟩
    obtain ⟨q, hq⟩ := choose_lt each
    refine ⟨some x, len, m, (List.range len).map q, rfl, by simp, ?_, fun st hst => by obtain ⟨k, hk, rfl⟩ := List.mem_map.1 hst; obtain ⟨_, _, _, _, h9, _⟩ := hq k (List.mem_range.1 hk); exact h9⟩
    by_cases h0 : len = 0
    · subst h0; exact .inl (by simp)
    · obtain ⟨g, off, e, -⟩ := hq 0 (by omega)
      refine .inr ⟨g, off, by rw [e], fun j p hj => ?_⟩
      have hj' : j < len := by have := (List.getElem?_eq_some_iff.1 hj).1; simpa using this
      have e2 : p = q j := by
        rw [List.getElem?_map, List.getElem?_range hj'] at hj
        simpa using hj.symm
      obtain ⟨g', off', e', h1, -, h2⟩ := hq j hj'
      rw [e] at e'
      injection e' with e3 e4
      subst e3 e4 e2
      exact ⟨h1, h2⟩
end
end Go.Proofs.Ytpifjghhlcjedaa
