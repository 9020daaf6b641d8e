/- Proved: quoinlaw01.AddbufStays returns true for every text and every list of texts, and leaves its arguments as they were; no condition. -/
import Derived.Test.YtfjfflkdcmpgnaaStaysWalk
import Derived.ProofKit
import Derived.OpenShut
import Derived.SizedLaws
import Derived.Deep.Matrix
namespace Go.Proofs.Ytfjfflkdcmpgnaa.stays
open Go.ChangeShapes Go.WideShapes Go.ChangeAt Go.RowKit Go.Deep

theorem own : ownKnob Try.prog.godebug = none := by kernel_rfl
theorem laidOut : laidOutB Try.prog = true := by kernel_rfl
theorem cells5 : Try.prog.cellsOf 5 = 1 := by kernel_rfl
theorem cells22 : Try.prog.cellsOf 22 = 1 := by kernel_rfl
theorem bytes5 : Try.prog.bytesOf 5 = 1 := by kernel_rfl
theorem bytes22 : Try.prog.bytesOf 22 = 24 := by kernel_rfl

/-- numbers that are bytes -/
def by8 (zs : List Int) : List UInt8 := zs.map fun z => UInt8.ofNat z.toNat
theorem by8_length (zs : List Int) : (by8 zs).length = zs.length := by simp [by8]
theorem rd_ints {W : World} {a : Addr} {len cap : Nat} {zs : List Int} (hl : len ≤ zs.length) (hc : ∀ i, i < zs.length → W.cell? (a.add i) = some (.int .u8 (zs.getD i 0))) (hw : ∀ n ∈ zs, (Lit.int .u8 n).wf = true) :
    Rd W (.slice (some a) (by8 (zs.take len)).length cap) (by8 (zs.take len)) := by
  refine .inr ⟨a, cap, rfl, fun j u hu => ?_⟩
  have hj : j < len := by
    have h1 := (List.getElem?_eq_some_iff.1 hu).1
    rw [bv_length, by8_length, List.length_take] at h1
    omega
  have hz : j < zs.length := by omega
  have hb := bounds_u8 (hw zs[j] (List.getElem_mem hz))
  rw [hc j hz, ← hu]
  have e : (UInt8.ofNat zs[j].toNat).toNat = zs[j].toNat := by
    rw [UInt8.toNat_ofNat']; omega
  simp [bv, by8, hj, hz, e]
  omega

theorem weightsAll_mem {H : Type} {P : Program} {e : TypeId} : ∀ {l : List (DataW H)} {d : DataW H} {n : Nat}, d ∈ l → n ∈ d.weights P e → n ∈ DataW.weightsAll P e l
  | d0 :: l, d, n, hd, hn => by
    simp only [DataW.weightsAll, List.mem_append]
    rcases List.mem_cons.1 hd with rfl | h
    · exact .inl hn
    · exact .inr (weightsAll_mem h hn)

/-- what an argument of type []byte is to the walk -/
theorem open0 {H : Type} {enc : TypeId × Value → H} {W : World} {v : Value} {d : DataW H} {p : List MemPlace} (h : DataW.Trod enc Try.prog W 0 (fun _ => true) true 22 v d p) (hv : ∃ a len cap, v = .slice a len cap)
    (hsz : ∀ n ∈ d.weights Try.prog 22, n ≤ reachBytes) : ∃ a0 c0 O, v = .slice a0 (List.length O) c0 ∧ Rd W (.slice a0 (List.length O) c0) O ∧ O.length ≤ 140737488351232 := by
  obtain ⟨a, len, cap, rfl⟩ := hv
  obtain ⟨fuel, hf⟩ := h
  rcases open_ints Try.underlying22 Try.underlying5 cells5 hf with ⟨hcs, _⟩ | ⟨x, l, c, zs, hcs, _, hl, hm, hz, hx, hcell, hwz⟩
  · simp [Value.cells] at hcs
    obtain ⟨rfl, rfl, rfl⟩ := hcs
    exact ⟨none, 0, [], rfl, .inl ⟨rfl, rfl⟩, by simp⟩
  · simp [Value.cells] at hcs
    obtain ⟨rfl, rfl, rfl⟩ := hcs
    simp only [if_true] at hz
    simp only [Prod.mk.injEq] at hx
    obtain ⟨rfl, -⟩ := hx
    have hlen : (by8 (zs.take len)).length = len := by rw [by8_length, List.length_take]; omega
    have h1 := rd_ints (cap := cap) (len := len) (by omega) hcell hwz
    rw [hlen] at h1
    refine ⟨some x, cap, by8 (zs.take len), by rw [hlen], by rw [hlen]; exact h1, ?_⟩
    have h2 := hsz ((lits (H := H) .u8 (zs.take len)).length + (lits (H := H) .u8 (zs.drop len)).length) (by simp [DataW.weights, Try.underlying22, bytes5])
    simp only [lits, List.length_map, List.length_take, List.length_drop, reachBytes] at h2
    omega

/-- what an argument of type [][]byte is to the walk -/
theorem open1 {H : Type} {enc : TypeId × Value → H} {W : World} {v : Value} {d : DataW H} {p : List MemPlace} (h : DataW.Trod enc Try.prog W 0 (fun _ => true) true 31 v d p) (hv : ∃ a len cap, v = .slice a len cap)
    (hsz : ∀ n ∈ d.weights Try.prog 31, n ≤ reachBytes) : ∃ ao c1 tv T, v = .slice ao (List.length T) c1 ∧ TxAt W ao c1 tv T ∧ T.length ≤ 140737488351232 ∧ ∀ i, i < T.length → (txt T i).length ≤ 140737488351232 := by
  obtain ⟨a, len, cap, rfl⟩ := hv
  obtain ⟨fuel, hf⟩ := h
  rcases open_int_rows Try.underlying31 Try.underlying22 Try.underlying5 cells22 cells5 hf with ⟨hcs, _⟩ | ⟨x, l, c, A, L, C, Z, hcs, _, hl, hm, hx, hrow⟩
  · simp [Value.cells] at hcs
    obtain ⟨rfl, rfl, rfl⟩ := hcs
    exact ⟨none, 0, [], [], rfl, ⟨rfl, fun i hi => by simp at hi, .inl ⟨rfl, rfl, rfl⟩⟩, by simp, fun i hi => by simp at hi⟩
  · simp [Value.cells] at hcs
    obtain ⟨rfl, rfl, rfl⟩ := hcs
    simp only [Prod.mk.injEq] at hx
    obtain ⟨rfl, -⟩ := hx
    have hT : ∀ i, i < len → txt ((List.range len).map fun r => by8 ((Z r).take (L r))) i = by8 ((Z i).take (L i)) := by
      intro i hi; rw [txt_eq _ i (by simpa using hi)]; simp
    have hLen : ∀ i, i < len → (by8 ((Z i).take (L i))).length = L i := by
      intro i hi
      have h1 := hrow i (by omega)
      rw [by8_length, List.length_take, h1.2.2.2.1]; omega
    refine ⟨some x, cap, (List.range len).map fun r => .slice (A r) (L r) (C r), (List.range len).map fun r => by8 ((Z r).take (L r)), by simp, ⟨by simp, ?_, ?_⟩, ?_, ?_⟩
    · intro i hi
      have hi' : i < len := by simpa using hi
      obtain ⟨h1, h2, h3, h4, h5, h6, h7⟩ := hrow i (by omega)
      refine ⟨A i, C i, by simp [hi', hT i hi', hLen i hi'], ?_⟩
      rw [hT i hi']
      cases hA : A i with
      | none =>
        have hC := h6 hA
        have e : by8 ((Z i).take (L i)) = [] := List.eq_nil_of_length_eq_zero (by rw [hLen i hi']; omega)
        rw [e, hC]
        exact .inl ⟨rfl, rfl⟩
      | some a' => exact rd_ints (by omega) (fun k hk => (h7 a' hA).2 k (by omega)) h5
    · refine .inr ⟨x, rfl, fun i u hu => ?_⟩
      have hi' : i < len := by have := (List.getElem?_eq_some_iff.1 hu).1; simpa using this
      rw [(hrow i (by omega)).1, ← hu]
      simp [hi']
    · have h2 := hsz ((((List.range len).map fun r => intRow (H := H) .u8 (A r) (L r) (Z r)).length + ((List.range (cap - len)).map fun j => intRow (H := H) .u8 (A (len + j)) (L (len + j)) (Z (len + j))).length) * 24) (by simp [DataW.weights, Try.underlying31, bytes22])
      simp only [List.length_map, List.length_range, reachBytes] at h2
      simp
      omega
    · intro i hi
      have hi' : i < len := by simpa using hi
      rw [hT i hi', hLen i hi']
      obtain ⟨h1, h2, h3, h4, h5, h6, h7⟩ := hrow i (by omega)
      cases hA : A i with
      | none => have := h6 hA; omega
      | some a' =>
        have h8 := hsz ((lits (H := H) .u8 ((Z i).take (L i))).length + (lits (H := H) .u8 ((Z i).drop (L i))).length) (by
          have hmem : intRow (H := H) .u8 (A i) (L i) (Z i) ∈ ((List.range len).map fun r => intRow (H := H) .u8 (A r) (L r) (Z r)) := List.mem_map.2 ⟨i, List.mem_range.2 hi', rfl⟩
          have hn : ((lits (H := H) .u8 ((Z i).take (L i))).length + (lits (H := H) .u8 ((Z i).drop (L i))).length) ∈ (intRow (H := H) .u8 (A i) (L i) (Z i)).weights Try.prog 22 := by
            rw [hA]; simp [intRow, DataW.weights, Try.underlying22, bytes5]
          have h9 := weightsAll_mem (P := Try.prog) hmem hn
          simp only [DataW.weights, Try.underlying31, List.mem_cons, List.mem_append]
          exact .inr (.inl h9))
        simp only [lits, List.length_map, List.length_take, List.length_drop, reachBytes] at h8
        omega

set_option maxRecDepth 100000 in
theorem lifted (os : Os) (started : os.Started) (H : Type) (enc : TypeId × Value → H) :
    ReturnsInHanded {} Try.checked os 6 .any (Rows.addbufStaysSpec.pre6 enc Try.prog Try.f6 Rows.addbufStaysRow.domain false) (Rows.addbufStaysSpec.post enc Try.prog Try.f6 false true false false) := by
  refine returnsInHanded_of_change_sized (C := Try.checked) own started (by kernel_rfl) Try.func6
    (ChangeSpec.witness6 (enc := enc) (C := Try.checked) false ⟨#[], #[.slice none 0 0, .slice none 0 0], []⟩ 8 (by kernel_rfl) (by kernel_rfl) (by kernel_rfl) (by kernel_rfl)) ?_
  intro W base args ds gs before hval0 hW _ hsz0 _
  have hval : ∀ (j : Nat) t v, Try.f6.params[j]? = some t → args[j]? = some v → Value.okWide Try.prog W .any base t v := hval0
  have hsz : (DataW.weightsEach Try.prog (Try.f6.params.toList ++ Rows.addbufStaysSpec.plain.varTypes Try.prog) (ds ++ gs)).all (· ≤ reachBytes) = true := hsz0
  have hW' := hW
  obtain ⟨p, q, hA0, hV, rfl, _, _⟩ := hW
  have hA : DataW.TrodAll enc Try.prog W 0 (fun _ => true) true Try.f6.params.toList args.toList ds p := hA0
  rw [Try.params6] at hA hval hsz
  obtain ⟨v0, vs0, d0, ds0, p0, q0, hargs, rfl, rfl, h0, r0⟩ := trodAll_cons hA
  obtain ⟨v1, vs1, d1, ds1, p1, q1, rfl, rfl, rfl, h1, r1⟩ := trodAll_cons r0
  obtain ⟨rfl, rfl, rfl⟩ := trodAll_nil r1
  obtain rfl : args = #[v0, v1] := by cases args; simp_all
  obtain ⟨rfl, rfl⟩ := trodVars_none hV
  have lt0 : ∀ x ∈ p0, x.block < W.heap.size := by obtain ⟨m, hm⟩ := h0; exact DataW.trod_lt m _ _ _ hm
  have lt1 : ∀ x ∈ p1, x.block < W.heap.size := by obtain ⟨m, hm⟩ := h1; exact DataW.trod_lt m _ _ _ hm
  have w0 : ∀ n ∈ d0.weights Try.prog 22, n ≤ reachBytes := fun n hn => by
    have := List.all_eq_true.1 hsz n (DataW.weights_mem_each (j := 0) (t := 22) (d := d0) rfl rfl n hn)
    simpa using this
  have w1 : ∀ n ∈ d1.weights Try.prog 31, n ≤ reachBytes := fun n hn => by
    have := List.all_eq_true.1 hsz n (DataW.weights_mem_each (j := 1) (t := 31) (d := d1) rfl rfl n hn)
    simpa using this
  obtain ⟨a0, c0, O, e0, hO, bO⟩ := open0 h0 (okWide_slice Try.underlying22 (hval 0 22 v0 rfl rfl)) w0
  obtain ⟨ao, c1, tv, T, e1, hT, bT, bE⟩ := open1 h1 (okWide_slice Try.underlying31 (hval 1 31 v1 rfl rfl)) w1
  subst e0 e1
  clear hA0 hval0 hsz hsz0
  refine (stays_walk a0 c0 O ao c1 tv T W hO hT bO bT bE).mono fun e W' ⟨he, bel⟩ => ?_
  subst he
  exact ⟨_, rfl, _, _, _, [], _, [], hW', trodAll_mk1 (shut_bool Try.underlying4 _), (trodAll_cons_mk (Below.trod laidOut (by kernel_rfl) (of_decide_eq_true (by kernel_rfl)) h0 bel lt0) (trodAll_cons_mk (Below.trod laidOut (by kernel_rfl) (of_decide_eq_true (by kernel_rfl)) h1 bel lt1) trodAll_mk0)), rfl, bel.frame _, fun h => by cases h⟩

theorem over : Rows.addbufStaysRow.holds Try.pinned (OpenSpec.ofChange Rows.addbufStaysSpec) :=
  OpenClaim.holds_of_wide 6 Try.f6 rfl rfl rfl rfl rfl rfl rfl ⟨rfl, rfl, rfl, rfl, rfl⟩ rfl rfl rfl rfl rfl (by kernel_rfl) Try.func6 (by kernel_rfl)
    (of_decide_eq_true (by kernel_rfl)) (by unfold Func.isWrapper; first | (rw [if_pos (by decide +kernel)]; kernel_rfl) | (rw [if_neg (by decide +kernel)]; exact ⟨rfl, rfl⟩))
    (fun os started H enc _ => lifted os started H enc)
end Go.Proofs.Ytfjfflkdcmpgnaa.stays
namespace Go.Proofs.Ytfjfflkdcmpgnaa
/-- The given statement. -/
theorem addbufStays_holds : Rows.AddbufStaysSaid := stays.over
end Go.Proofs.Ytfjfflkdcmpgnaa
