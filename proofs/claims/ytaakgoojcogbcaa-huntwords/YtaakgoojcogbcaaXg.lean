/- Rows of pairs. -/
import Derived.Test.YtaakgoojcogbcaaZAll
import Derived.ChangeKeysEq
import Derived.Test.YtaakgoojcogbcaaXf
import Derived.Laws.OwnMore
import Derived.Laws.EntriesVeiled
namespace Go.Proofs.Ytaakgoojcogbcaa
open Go.RowKit
theorem pvs_at (xs : List (Nat × Nat)) : ∀ {i : Nat} {a b : Nat}, xs[i]? = some (a, b) → (pvs xs)[i * 2]? = some (.int .i64 (a : Int)) ∧ (pvs xs)[i * 2 + 1]? = some (.int .i64 (b : Int)) := by
  induction xs with
  | nil => intro i a b h; simp at h
  | cons x r ih =>
    intro i a b h
    cases i with
    | zero => simp at h; subst h; simp [pvs]
    | succ i =>
      have := ih (i := i) (a := a) (b := b) (by simpa using h)
      rw [show (i + 1) * 2 = i * 2 + 1 + 1 by omega]
      simpa [pvs] using this
theorem plain3 : Try.prog.plainKey 3 = true := by kernel_rfl
theorem cellsOf3 : Try.prog.cellsOf 3 = 1 := by kernel_rfl
theorem eq41 (s o : Int) (W : World) : (Op.equalIn 10000 37 (.agg #[.int .i64 s, .int .i64 o]) (.agg #[.int .i64 s, .int .i64 o])).run Try.prog W = .ok true W := by
  obtain ⟨i, hi⟩ : ∃ i, Try.prog.info? 3 = some i := by
    have := info3
    cases h : Try.prog.info? 3 with
    | none => rw [h] at this; cases this
    | some i => exact ⟨i, rfl⟩
  rw [run_equalIn_array W 9999 _ _ Try.underlying37 hi, cellsOf3]
  have e2 : List.range 2 = [0, 1] := by decide
  have p0 := run_part_plain (P := Try.prog) W (e := 3) plain3 (xs := #[Value.int .i64 s, .int .i64 o]) (off := 0) (v := .int .i64 s) rfl
  have p1 := run_part_plain (P := Try.prog) W (e := 3) plain3 (xs := #[Value.int .i64 s, .int .i64 o]) (off := 1) (v := .int .i64 o) rfl
  have q0 := run_equalIn_int (P := Try.prog) W 9998 3 .i64 .i64 s s Try.underlying3
  have q1 := run_equalIn_int (P := Try.prog) W 9998 3 .i64 .i64 o o Try.underlying3
  rw [e2]
  simp [Op.eqItems, p0, p1, q0, q1]
theorem row_cell {W : World} {base e size n g c : Nat} {xs : List Value} {j : Nat} {u : Value} (h : W.ownsRow base e size (.slice (some ⟨g, 0, none⟩) n c) n xs) (hj : xs[j]? = some u) : W.cell? ⟨g, j, none⟩ = some u := by
  rcases own_srv h with ⟨e, _⟩ | ⟨ad, c, e, hc⟩
  · cases e
  · injection e with e _ _
    injection e with e
    have := hc j _ hj
    rw [← e, add_none, Nat.zero_add] at this
    exact this

end Go.Proofs.Ytaakgoojcogbcaa
/- hunt: follow, onward and back. -/
namespace Go.Proofs.Ytaakgoojcogbcaa
open Go.RowKit
section
variable {w W W' : World} {Sb P : Nat} {ao : Option Addr} {n c : Nat} {t : List UInt8} {q : Nat}
theorem Sx.grown {row : Option Nat} (s : Sx w W Sb P ao n c t q) (hg : W.grownBy W' row) (hl : ∀ k, row = some k → w.heap.size ≤ k) (h1 : row ≠ some Sb) : Sx w W' Sb P ao n c t q := by
  obtain ⟨al, cl, g1, g2⟩ := s.blk
  exact ⟨s.bel.grown hg s.bel.size hl, s.low, s.le, al, cl, grow_blk g1 hg h1, g2⟩
theorem Sx.far {base e s m : Nat} {v : Value} {xs : List Value} (x : Sx w W Sb P ao n c t q) (h : W.ownsRow base e s v m xs) (hne : e ≠ 116) : v.ownBlock ≠ some Sb := by
  obtain ⟨al, cl, g1, g2⟩ := x.blk
  exact own_far h g1 hne
end
theorem own_sx {W W' : World} {Sb base e s m : Nat} {v : Value} {xs : List Value} (h : W.ownsRow base e s v m xs) (hf : v.ownBlock ≠ some Sb) (hg : W.grownBy W' (some Sb)) : W'.ownsRow base e s v m xs := by
  refine ⟨h.1, ?_⟩
  rcases h.2 with h2 | ⟨g, cap, cur, e1, h3, h4, h5⟩
  · exact .inl h2
  · refine .inr ⟨g, cap, cur, e1, h3, ?_, h5⟩
    rw [hg.block g (Array.getElem?_eq_some_iff.1 h4).1 (fun e => hf (by rw [e1]; exact e))]
    exact h4
/-- numbers as cells -/
def nvs (xs : List Nat) : List Value := xs.map fun (x : Nat) => Value.int .i64 (x : Int)
theorem nvs_at {xs : List Nat} {j : Nat} (h : j < xs.length) : (nvs xs)[j]? = some (.int .i64 (xs.getD j 0 : Int)) := by simp [nvs, h, List.getD]
/-- the first j hits on the way -/
def way (f : Nat → Nat) (k j : Nat) : List Nat := (List.range j).map fun i => itr f (i + 1) k
theorem way_len (f : Nat → Nat) (k j : Nat) : (way f k j).length = j := by simp [way]
theorem way_at (f : Nat → Nat) (k : Nat) {i j : Nat} (h : i < j) : (way f k j).getD i 0 = itr f (i + 1) k := by simp [way, List.getD, h]
theorem way_succ (f : Nat → Nat) (k j : Nat) : way f k (j + 1) = way f k j ++ [itr f (j + 1) k] := by simp [way, List.range_succ]
theorem nvs_succ (f : Nat → Nat) (k j : Nat) : nvs (way f k (j + 1)) = nvs (way f k j) ++ [.int .i64 (itr f (j + 1) k : Int)] := by rw [way_succ]; simp [nvs]
theorem hs_getD (l : List Th) (t : List UInt8) (i : Nat) : (hs l t).getD i 0 ≤ t.length := by
  rcases Nat.lt_or_ge i (hs l t).length with h | h
  · rw [getD_at h]; exact hs_low (List.getElem_mem h)
  · simp [List.getD, List.getElem?_eq_none h]
theorem fwd_len (l : List Th) (t : List UInt8) (k : Nat) : fwd (hs l t) k ≤ t.length := hs_getD l t _
theorem bwd_len (l : List Th) (t : List UInt8) (k : Nat) : bwd (hs l t) k ≤ t.length := hs_getD l t _
theorem itr_len {f : Nat → Nat} {m : Nat} (h : ∀ k, f k ≤ m) (j k : Nat) : itr f (j + 1) k ≤ m := by rw [itr_succ]; exact h _
/-- come round -/
theorem way_round {f : Nat → Nat} {k j c : Nat} (h : itr f (j + 1) k = itr f 1 k) : itr f (c + 1) k = itr f (c % j + 1) k := by
  have h1 : itr f j (f k) = f k := h
  have := itr_mod h1 c
  exact this
theorem infoI : ∃ i, Try.prog.info? 3 = some i ∧ i.zero = some (.int .i64 0) ∧ i.size = 1 ∧ i.bytes = 8 := by
  have := info3
  cases h : Try.prog.info? 3 with
  | none => rw [h] at this; cases this
  | some i => rw [h] at this; simp at this; exact ⟨i, rfl, this.1, this.2.1, this.2.2⟩
/-- where it leads -/
def fov (ok : Bool) (f : Nat → Nat) (C k : Nat) : Nat := if ok then itr f (C + 1) k else 0
/-- what follow answers -/
def FoP (w : World) (x : Nat) (ok : Bool) (e : Ending) (W' : World) : Prop := e = .returned (.tuple #[.int .i64 (x : Int), .bool ok]) ∧ Below w.heap.size w W'
set_option maxRecDepth 8000 in
set_option maxHeartbeats 8000000 in
theorem follow_on (base : Nat) (w W : World) (Sb P : Nat) (ao : Option Addr) (n c : Nat) (t : List UInt8) (l : List Th) (q k C : Nat) (hk : k ≤ n) (hC : C + 1 ≤ 9999) (hl : l.length ≤ 256) (HP : Hid (Pat base w P l)) (HT : Hid (Tx w ao n c t)) (H : Hid (Sx w W Sb P ao n c t q)) :
    Calls Try.prog 39 #[.func (.func 37) #[.pointer (some ⟨Sb, 0, none⟩)] #[], .int .i64 (k : Int), .int .i64 ((C + 1 : Nat) : Int)] W fun e W' => FoP w (fov (okh (hs l t)) (fwd (hs l t)) C k) (okh (hs l t)) e W' := by
  have hlen := HT.out.len
  have hbig := HT.out.big
  obtain ⟨i0, hi, hz0, hz1, hz2⟩ := infoI
  have CN := Hid.mk' (fun W1 q1 k1 (h : Hid (Sx w W1 Sb P ao n c t q1)) (hk1 : k1 ≤ n) => onward_any base w W1 Sb P ao n c t l q1 k1 hk1 hl HP HT h)
  have HFL : Hid (∀ k, fwd (hs l t) k ≤ n) := fun k => by rw [← hlen]; exact fwd_len l t k
  obtain ⟨f, HF⟩ : ∃ f, Hid (fwd (hs l t) = f) := ⟨_, rfl⟩
  obtain ⟨ok, HO⟩ : ∃ ok, Hid (okh (hs l t) = ok) := ⟨_, rfl⟩
  rw [HF.out] at HFL
  simp only [HF.out, HO.out] at CN ⊢
  have HC := Hid.mk' hC
  have hwC : Go.RowKit.wrap64 (C : Int) = (C : Int) := by unfold Go.RowKit.wrap64; omega
  have hcast : ((C + 1 : Nat) : Int) = (C : Int) + 1 := by omega
  rw [hcast]
  clear hC hcast
  go_enter Try.func39, Try.ntmps39
  go_wp2_with fail
  refine (CN.out _ q k H hk).mono ?_
  rintro e w1 ⟨q1, rfl, hs1, hg1⟩
  have S1 := Hid.mk' hs1
  have L1 := Hid.mk' hs1.bel
  clear hs1 hg1
  cases ok with
  | false =>
    have HZ : Hid (f k = 0) := by
      rw [← HF.out]
      have : (hs l t).length = 0 := by have := HO.out; unfold okh at this; simpa using this
      rw [List.eq_nil_of_length_eq_zero this]; rfl
    go_wp2
    go_ret2
    exact ⟨rfl, L1.out⟩
  | true =>
    go_wp2_with fail
    have O2 : Hid ((w1.alloc (.cells #[.int .i64 (f k : Int)] 3)).ownsRow w.heap.size 3 1 (.slice (some ⟨w1.heap.size, 0, none⟩) 1 1) 1 (nvs (way f k 1))) := World.ownsRow_lit w1 #[.int .i64 (f k : Int)] 1 L1.out.size (by unfold maxLen; omega) rfl
    have S2 := Hid.mk' (S1.out.keep (bAlloc (Below.refl _ _) (.cells #[.int .i64 (f k : Int)] 3)))
    clear S1 L1
    generalize w1.alloc (.cells #[.int .i64 (f k : Int)] 3) = w2 at *
    go_loopg [10, 11, 12] C (fun m x10 x11 x12 wx => ∃ (j q2 : Nat), 0 < j ∧ j ≤ C + 1 ∧ m + j = C + 1 ∧ Hid (wx.ownsRow w.heap.size 3 1 x10 j (nvs (way f k j))) ∧ Hid (Sx w wx Sb P ao n c t q2))
    case atStart => exact ⟨1, q1, by omega, by omega, by omega, O2.out, S2.out⟩
    case round =>
      clear O2 S2
      obtain ⟨j, q2, hj0, hjC, hm, HO2, S2⟩ := hrel
      obtain ⟨g5, c5, e5, _, _⟩ := own_some HO2.out hj0
      subst e5
      have hC := HC.out
      have hjw : IntKind.i64.wrap ((j : Int) - 1) = (j : Int) - 1 := by rw [IntKind.wrap_i64]; omega
      clear hC
      have hj1 : (0 : Int) < (j : Int) := by omega
      by_cases hlt : j < C + 1
      · have hlt' : (j : Int) < (C : Int) + 1 := by omega
        have cl1 : wr.cell? ⟨g5, j - 1, none⟩ = some (.int .i64 (itr f j k : Int)) := by
          have := row_cell HO2.out (nvs_at (xs := way f k j) (j := j - 1) (by rw [way_len]; omega))
          rw [way_at f k (show j - 1 < j by omega), show j - 1 + 1 = j by omega] at this
          exact this
        have hn1 : ((j : Int) - 1).toNat = j - 1 := by omega
        have hb1 : (0 : Int) ≤ (j : Int) - 1 := by omega
        have hb2 : (j : Int) - 1 < (j : Int) := by omega
        have hjn : itr f j k ≤ n := by rw [show j = (j - 1) + 1 by omega]; exact itr_len HFL.out _ _
        have CN2 := Hid.mk' (CN.out wr q2 (itr f j k) S2 hjn)
        obtain ⟨X, HX⟩ : ∃ X, Hid (itr f j k = X) := ⟨_, rfl⟩
        have HXX : Hid (f X = itr f (j + 1) k) := by unfold Hid; rw [itr_succ, HX.out]
        rw [HX.out] at cl1 CN2
        go_wp2_with fail
        refine CN2.out.mono ?_
        rintro e w3 ⟨q3, rfl, hs3, hg3⟩
        have S3 := Hid.mk' hs3
        have O3 := Hid.mk' (own_sx HO2.out (S2.out.far HO2.out (by decide)) hg3)
        clear hs3 hg3 CN2 cl1 S2 HO2
        by_cases hrd : f X = f k
        · have hrd' : ((f X : Int) == (f k : Int)) = true := by simp; omega
          have HRD : Hid (itr f (C + 1) k = itr f (C % j + 1) k) := way_round (by rw [← HXX.out, hrd]; rfl)
          have hmod : C % j < j := Nat.mod_lt _ (by omega)
          have cl2 : w3.cell? ⟨g5, C % j, none⟩ = some (.int .i64 (itr f (C + 1) k : Int)) := by
            have := row_cell O3.out (nvs_at (xs := way f k j) (j := C % j) (by rw [way_len]; omega))
            rw [way_at f k hmod] at this
            rw [HRD.out]; exact this
          have hm1 : Int.tmod ((C : Int)) (j : Int) = ((C % j : Nat) : Int) := by rw [Int.tmod_eq_emod_of_nonneg (by omega)]; omega
          have hm2 : ((C % j : Nat) : Int) < (j : Int) := by omega
          have hm4 : ((j : Int) == 0) = false := by simp; omega
          have hm5 : ¬ ((j : Int) = 0) := by omega
          obtain ⟨M, HM⟩ : ∃ M, Hid (C % j = M) := ⟨_, rfl⟩
          rw [HM.out] at cl2 hm1 hm2
          go_wp2
          go_ret2
          exact ⟨rfl, S3.out.bel⟩
        · have hrd' : ((f X : Int) == (f k : Int)) = false := by simp; omega
          go_wp2_with (first | (at_builtin; refine append_srv rfl (.tmp 41) (.tmp 43) 23 rfl w.heap.size 3 i0 (.int .i64 0) 1 8 Try.underlying23 hi hz0 hz1 hz2 rfl (by decide) (.slice (some ⟨g5, 0, none⟩) j c5) j (nvs (way f k j)) rfl (O3.out.alloc _) (.slice (some ⟨w3.heap.size, 0, none⟩) 1 1) 1 [.int .i64 (f X : Int)] rfl (.inr ⟨⟨w3.heap.size, 0, none⟩, 1, rfl, fun k u hk => lit_cells w3 _ 3 k u hk⟩) rfl (by intro u hu; simp at hu; subst hu; rfl) (by unfold maxLen; have := HC.out; omega) (by have := HC.out; omega) (bAlloc S3.out.bel _).size ?_))
          intro v5 w5 hown hgrow _
          have S4 := Hid.mk' (S3.out.keep (bAlloc (Below.refl _ _) (.cells #[.int .i64 (f X : Int)] 3)))
          have S5 := Hid.mk' (S4.out.grown hgrow (fun k hk => (O3.out.lt k hk).1) (S4.out.far (O3.out.alloc _) (by decide)))
          have O5 : Hid (w5.ownsRow w.heap.size 3 1 v5 (j + 1) (nvs (way f k (j + 1)))) := by unfold Hid; rw [nvs_succ, ← HXX.out]; exact hown
          clear hown hgrow S4 S3 O3
          go_wp2
          go_roundg (C + 1 - (j + 1))
          case measure => omega
          case rel => exact ⟨j + 1, q3, by omega, by omega, by omega, O5.out, S5.out⟩
      · have hjE : j = C + 1 := by omega
        subst hjE
        have hcC : (((C + 1 : Nat)) : Int) = (C : Int) + 1 := by omega
        have hlt' : ¬ ((((C + 1 : Nat)) : Int) < (C : Int) + 1) := by omega
        have cl2 : wr.cell? ⟨g5, C, none⟩ = some (.int .i64 (itr f (C + 1) k : Int)) := by
          have := row_cell HO2.out (nvs_at (xs := way f k (C + 1)) (j := C) (by rw [way_len]; omega))
          rw [way_at f k (show C < C + 1 by omega)] at this
          exact this
        have hm1 : Int.tmod ((C : Int)) ((C : Int) + 1) = (C : Int) := by rw [Int.tmod_eq_emod_of_nonneg (by omega), Int.emod_eq_of_lt (by omega) (by omega)]
        have hm4 : (((C : Int) + 1) == 0) = false := by simp; omega
        have hm5 : ¬ ((C : Int) + 1 = 0) := by omega
        go_wp2
        go_ret2
        exact ⟨rfl, S2.out.bel⟩
set_option maxRecDepth 8000 in
set_option maxHeartbeats 8000000 in
theorem follow_back (base : Nat) (w W : World) (Sb P : Nat) (ao : Option Addr) (n c : Nat) (t : List UInt8) (l : List Th) (q k C : Nat) (hk : k ≤ n) (hC : C + 1 ≤ 9999) (hl : l.length ≤ 256) (HP : Hid (Pat base w P l)) (HT : Hid (Tx w ao n c t)) (H : Hid (Sx w W Sb P ao n c t q)) :
    Calls Try.prog 39 #[.func (.func 38) #[.pointer (some ⟨Sb, 0, none⟩)] #[], .int .i64 (k : Int), .int .i64 ((C + 1 : Nat) : Int)] W fun e W' => FoP w (fov (okh (hs l t)) (bwd (hs l t)) C k) (okh (hs l t)) e W' := by
  have hlen := HT.out.len
  have hbig := HT.out.big
  obtain ⟨i0, hi, hz0, hz1, hz2⟩ := infoI
  have CN := Hid.mk' (fun W1 q1 k1 (h : Hid (Sx w W1 Sb P ao n c t q1)) (hk1 : k1 ≤ n) => back_any base w W1 Sb P ao n c t l q1 k1 hk1 hl HP HT h)
  have HFL : Hid (∀ k, bwd (hs l t) k ≤ n) := fun k => by rw [← hlen]; exact bwd_len l t k
  obtain ⟨f, HF⟩ : ∃ f, Hid (bwd (hs l t) = f) := ⟨_, rfl⟩
  obtain ⟨ok, HO⟩ : ∃ ok, Hid (okh (hs l t) = ok) := ⟨_, rfl⟩
  rw [HF.out] at HFL
  simp only [HF.out, HO.out] at CN ⊢
  have HC := Hid.mk' hC
  have hwC : Go.RowKit.wrap64 (C : Int) = (C : Int) := by unfold Go.RowKit.wrap64; omega
  have hcast : ((C + 1 : Nat) : Int) = (C : Int) + 1 := by omega
  rw [hcast]
  clear hC hcast
  go_enter Try.func39, Try.ntmps39
  go_wp2_with fail
  refine (CN.out _ q k H hk).mono ?_
  rintro e w1 ⟨q1, rfl, hs1, hg1⟩
  have S1 := Hid.mk' hs1
  have L1 := Hid.mk' hs1.bel
  clear hs1 hg1
  cases ok with
  | false =>
    have HZ : Hid (f k = 0) := by
      rw [← HF.out]
      have : (hs l t).length = 0 := by have := HO.out; unfold okh at this; simpa using this
      rw [List.eq_nil_of_length_eq_zero this]; rfl
    go_wp2
    go_ret2
    exact ⟨rfl, L1.out⟩
  | true =>
    go_wp2_with fail
    have O2 : Hid ((w1.alloc (.cells #[.int .i64 (f k : Int)] 3)).ownsRow w.heap.size 3 1 (.slice (some ⟨w1.heap.size, 0, none⟩) 1 1) 1 (nvs (way f k 1))) := World.ownsRow_lit w1 #[.int .i64 (f k : Int)] 1 L1.out.size (by unfold maxLen; omega) rfl
    have S2 := Hid.mk' (S1.out.keep (bAlloc (Below.refl _ _) (.cells #[.int .i64 (f k : Int)] 3)))
    clear S1 L1
    generalize w1.alloc (.cells #[.int .i64 (f k : Int)] 3) = w2 at *
    go_loopg [10, 11, 12] C (fun m x10 x11 x12 wx => ∃ (j q2 : Nat), 0 < j ∧ j ≤ C + 1 ∧ m + j = C + 1 ∧ Hid (wx.ownsRow w.heap.size 3 1 x10 j (nvs (way f k j))) ∧ Hid (Sx w wx Sb P ao n c t q2))
    case atStart => exact ⟨1, q1, by omega, by omega, by omega, O2.out, S2.out⟩
    case round =>
      clear O2 S2
      obtain ⟨j, q2, hj0, hjC, hm, HO2, S2⟩ := hrel
      obtain ⟨g5, c5, e5, _, _⟩ := own_some HO2.out hj0
      subst e5
      have hC := HC.out
      have hjw : IntKind.i64.wrap ((j : Int) - 1) = (j : Int) - 1 := by rw [IntKind.wrap_i64]; omega
      clear hC
      have hj1 : (0 : Int) < (j : Int) := by omega
      by_cases hlt : j < C + 1
      · have hlt' : (j : Int) < (C : Int) + 1 := by omega
        have cl1 : wr.cell? ⟨g5, j - 1, none⟩ = some (.int .i64 (itr f j k : Int)) := by
          have := row_cell HO2.out (nvs_at (xs := way f k j) (j := j - 1) (by rw [way_len]; omega))
          rw [way_at f k (show j - 1 < j by omega), show j - 1 + 1 = j by omega] at this
          exact this
        have hn1 : ((j : Int) - 1).toNat = j - 1 := by omega
        have hb1 : (0 : Int) ≤ (j : Int) - 1 := by omega
        have hb2 : (j : Int) - 1 < (j : Int) := by omega
        have hjn : itr f j k ≤ n := by rw [show j = (j - 1) + 1 by omega]; exact itr_len HFL.out _ _
        have CN2 := Hid.mk' (CN.out wr q2 (itr f j k) S2 hjn)
        obtain ⟨X, HX⟩ : ∃ X, Hid (itr f j k = X) := ⟨_, rfl⟩
        have HXX : Hid (f X = itr f (j + 1) k) := by unfold Hid; rw [itr_succ, HX.out]
        rw [HX.out] at cl1 CN2
        go_wp2_with fail
        refine CN2.out.mono ?_
        rintro e w3 ⟨q3, rfl, hs3, hg3⟩
        have S3 := Hid.mk' hs3
        have O3 := Hid.mk' (own_sx HO2.out (S2.out.far HO2.out (by decide)) hg3)
        clear hs3 hg3 CN2 cl1 S2 HO2
        by_cases hrd : f X = f k
        · have hrd' : ((f X : Int) == (f k : Int)) = true := by simp; omega
          have HRD : Hid (itr f (C + 1) k = itr f (C % j + 1) k) := way_round (by rw [← HXX.out, hrd]; rfl)
          have hmod : C % j < j := Nat.mod_lt _ (by omega)
          have cl2 : w3.cell? ⟨g5, C % j, none⟩ = some (.int .i64 (itr f (C + 1) k : Int)) := by
            have := row_cell O3.out (nvs_at (xs := way f k j) (j := C % j) (by rw [way_len]; omega))
            rw [way_at f k hmod] at this
            rw [HRD.out]; exact this
          have hm1 : Int.tmod ((C : Int)) (j : Int) = ((C % j : Nat) : Int) := by rw [Int.tmod_eq_emod_of_nonneg (by omega)]; omega
          have hm2 : ((C % j : Nat) : Int) < (j : Int) := by omega
          have hm4 : ((j : Int) == 0) = false := by simp; omega
          have hm5 : ¬ ((j : Int) = 0) := by omega
          obtain ⟨M, HM⟩ : ∃ M, Hid (C % j = M) := ⟨_, rfl⟩
          rw [HM.out] at cl2 hm1 hm2
          go_wp2
          go_ret2
          exact ⟨rfl, S3.out.bel⟩
        · have hrd' : ((f X : Int) == (f k : Int)) = false := by simp; omega
          go_wp2_with (first | (at_builtin; refine append_srv rfl (.tmp 41) (.tmp 43) 23 rfl w.heap.size 3 i0 (.int .i64 0) 1 8 Try.underlying23 hi hz0 hz1 hz2 rfl (by decide) (.slice (some ⟨g5, 0, none⟩) j c5) j (nvs (way f k j)) rfl (O3.out.alloc _) (.slice (some ⟨w3.heap.size, 0, none⟩) 1 1) 1 [.int .i64 (f X : Int)] rfl (.inr ⟨⟨w3.heap.size, 0, none⟩, 1, rfl, fun k u hk => lit_cells w3 _ 3 k u hk⟩) rfl (by intro u hu; simp at hu; subst hu; rfl) (by unfold maxLen; have := HC.out; omega) (by have := HC.out; omega) (bAlloc S3.out.bel _).size ?_))
          intro v5 w5 hown hgrow _
          have S4 := Hid.mk' (S3.out.keep (bAlloc (Below.refl _ _) (.cells #[.int .i64 (f X : Int)] 3)))
          have S5 := Hid.mk' (S4.out.grown hgrow (fun k hk => (O3.out.lt k hk).1) (S4.out.far (O3.out.alloc _) (by decide)))
          have O5 : Hid (w5.ownsRow w.heap.size 3 1 v5 (j + 1) (nvs (way f k (j + 1)))) := by unfold Hid; rw [nvs_succ, ← HXX.out]; exact hown
          clear hown hgrow S4 S3 O3
          go_wp2
          go_roundg (C + 1 - (j + 1))
          case measure => omega
          case rel => exact ⟨j + 1, q3, by omega, by omega, by omega, O5.out, S5.out⟩
      · have hjE : j = C + 1 := by omega
        subst hjE
        have hcC : (((C + 1 : Nat)) : Int) = (C : Int) + 1 := by omega
        have hlt' : ¬ ((((C + 1 : Nat)) : Int) < (C : Int) + 1) := by omega
        have cl2 : wr.cell? ⟨g5, C, none⟩ = some (.int .i64 (itr f (C + 1) k : Int)) := by
          have := row_cell HO2.out (nvs_at (xs := way f k (C + 1)) (j := C) (by rw [way_len]; omega))
          rw [way_at f k (show C < C + 1 by omega)] at this
          exact this
        have hm1 : Int.tmod ((C : Int)) ((C : Int) + 1) = (C : Int) := by rw [Int.tmod_eq_emod_of_nonneg (by omega), Int.emod_eq_of_lt (by omega) (by omega)]
        have hm4 : (((C : Int) + 1) == 0) = false := by simp; omega
        have hm5 : ¬ ((C : Int) + 1 = 0) := by omega
        go_wp2
        go_ret2
        exact ⟨rfl, S2.out.bel⟩
end Go.Proofs.Ytaakgoojcogbcaa
/- hunt.Next. -/
namespace Go.Proofs.Ytaakgoojcogbcaa
open Go.RowKit
theorem bset {w W : World} {a : Addr} (h : Below w.heap.size w W) (v : Value) (ha : w.heap.size ≤ a.block) : Below w.heap.size w (W.setCell a v) := h.setCell ha v
/-- a target and an error, as a call gives them -/
def tg (a b k e : Int) : Ending := .returned (.tuple #[.agg #[.int .i64 a, .int .i64 b, .int .i64 k], .int .i64 e])
/-- is what Next is handed in order? -/
def okA (n : Nat) (k C : Int) : Bool := decide (0 ≤ k ∧ k ≤ n ∧ 0 ≤ C ∧ C ≤ 9999)
/-- the way -/
def wy (back : Bool) (H : List Nat) : Nat → Nat := if back then bwd H else fwd H
/-- what Next answers -/
def nxE (l : List Th) (t : List UInt8) (k C : Int) (back : Bool) : Ending :=
  if okA t.length k C then (if okh (hs l t) then tg k (itr (wy back (hs l t)) (max C 1).toNat k.toNat : Nat) 1 0 else tg 0 0 0 120) else tg 0 0 0 2
set_option maxHeartbeats 400000 in
theorem hisPlace_any (ao : Option Addr) (n c : Nat) (i : Int) (w : World) :
    Calls Try.prog 35 #[.slice ao n c, .int .i64 i] w fun e w' => e = .returned (.bool (decide (0 ≤ i ∧ i ≤ n))) ∧ w' = w := by
  obtain ⟨D, HD⟩ : ∃ D, Hid (decide (0 ≤ i ∧ i ≤ (n : Int)) = D) := ⟨_, rfl⟩
  rw [HD.out]
  by_cases h0 : 0 ≤ i
  · by_cases h1 : i ≤ (n : Int)
    · obtain rfl : D = true := by rw [← HD.out]; exact decide_eq_true ⟨h0, h1⟩
      go_enter Try.func35, Try.ntmps35
      go_wp2
      go_ret
      exact ⟨rfl, rfl⟩
    · obtain rfl : D = false := by rw [← HD.out]; exact decide_eq_false (by omega)
      go_enter Try.func35, Try.ntmps35
      go_wp2
      go_ret
      exact ⟨rfl, rfl⟩
  · obtain rfl : D = false := by rw [← HD.out]; exact decide_eq_false (by omega)
    go_enter Try.func35, Try.ntmps35
    go_wp2
    go_ret
    exact ⟨rfl, rfl⟩
/-- what Next leaves -/
def NeP (x : Ending) (w : World) (e : Ending) (w' : World) : Prop := e = x ∧ Below w.heap.size w w'
set_option maxRecDepth 8000 in
set_option maxHeartbeats 8000000 in
theorem next_any (base : Nat) (w : World) (P : Nat) (ao : Option Addr) (n c : Nat) (t : List UInt8) (l : List Th) (k C : Int) (back : Bool) (hl : l.length ≤ 256) (HP : Hid (Pat base w P l)) (HT : Hid (Tx w ao n c t)) :
    Calls Try.prog 19 #[.slice ao n c, .int .i64 k, .int .i64 C, .pointer (some ⟨P, 0, none⟩), .bool back] w fun e w' => NeP (nxE l t k C back) w e w' := by
  have hlen := HT.out.len
  have CI := Hid.mk' (fun W => hisPlace_any ao n c k W)
  by_cases hp : 0 ≤ k ∧ k ≤ n
  · rw [decide_eq_true hp] at CI
    by_cases hC0 : C < 0
    · have hC0' : decide (C < 0) = true := decide_eq_true hC0
      have HE : Hid (nxE l t k C back = tg 0 0 0 2) := by unfold Hid nxE okA; rw [decide_eq_false (by omega)]; rfl
      clear hC0
      go_enter Try.func19, Try.ntmps19
      go_wp2_with (go_at_call 35; refine (CI.out _).mono ?_; rintro e w' ⟨rfl, hw⟩; subst hw)
      exact bodyPost_ret (v := .tuple #[.agg #[.int .i64 0, .int .i64 0, .int .i64 0], .int .i64 2]) (by simp [results, Try.results19, go_sem]) rfl ⟨HE.out.symm, by first | exact bAlloc (Below.refl _ _) _ | exact bset (bset (bset (bAlloc (Below.refl _ _) _) _ (by simp)) _ (by simp)) _ (by simp)⟩
    · have hC0' : decide (C < 0) = false := decide_eq_false hC0
      by_cases hC1 : 9999 < C
      · have hC1' : decide (9999 < C) = true := decide_eq_true hC1
        have HE : Hid (nxE l t k C back = tg 0 0 0 2) := by unfold Hid nxE okA; rw [decide_eq_false (by omega)]; rfl
        clear hC1 hC0
        go_enter Try.func19, Try.ntmps19
        go_wp2_with (go_at_call 35; refine (CI.out _).mono ?_; rintro e w' ⟨rfl, hw⟩; subst hw)
        exact bodyPost_ret (v := .tuple #[.agg #[.int .i64 0, .int .i64 0, .int .i64 0], .int .i64 2]) (by simp [results, Try.results19, go_sem]) rfl ⟨HE.out.symm, by first | exact bAlloc (Below.refl _ _) _ | exact bset (bset (bset (bAlloc (Below.refl _ _) _) _ (by simp)) _ (by simp)) _ (by simp)⟩
      · have hC1' : decide (9999 < C) = false := decide_eq_false hC1
        obtain ⟨k, rfl⟩ : ∃ j : Nat, k = (j : Int) := ⟨k.toNat, by omega⟩
        have hkn : k ≤ n := by omega
        obtain ⟨C', hC'⟩ : ∃ C' : Nat, max C 1 = ((C' + 1 : Nat) : Int) := ⟨(max C 1).toNat - 1, by omega⟩
        have hC9 : C' + 1 ≤ 9999 := by omega
        have HB0 := Hid.mk' (bAlloc (Below.refl _ w) (.cells #[.int .i64 0, .int .i64 0, .int .i64 0] 42))
        have HT0 := Hid.mk' (HT.out.keep HB0.out)
        have HP0 := Hid.mk' (HP.out.keep HB0.out)
        have HK0 := Hid.mk' (Blk.new w 42 #[.int .i64 0, .int .i64 0, .int .i64 0])
        have CS := Hid.mk' (newSearch_any _ P ao n c t k hkn HT0)
        have HE : Hid (nxE l t (k : Int) C back = if okh (hs l t) then tg (k : Int) (itr (wy back (hs l t)) (C' + 1) k : Nat) 1 0 else tg 0 0 0 120) := by
          unfold Hid nxE okA
          rw [decide_eq_true (by omega), if_pos rfl, hC', Int.toNat_natCast, Int.toNat_natCast]
        clear hC0 hC1 hp
        cases back with
        | false =>
          go_enter Try.func19, Try.ntmps19
          go_wp2_with fail
          refine (CI.out _).mono ?_
          rintro e w' ⟨rfl, hw⟩
          subst hw
          go_wp2_with fail
          refine CS.out.mono ?_
          rintro e w1 ⟨Sb, rfl, hs1, hb1⟩
          have S1 := Hid.mk' hs1
          have CF := Hid.mk' (follow_on base _ w1 Sb P ao n c t l k k C' hkn hC9 hl HP0 HT0 S1)
          clear hs1 hb1 CI CS
          go_wp2_with fail
          refine CF.out.mono ?_
          rintro e w2 ⟨rfl, hb2⟩
          have K2 := Hid.mk' (HK0.out.keep hb2)
          have B2 := Hid.mk' (HB0.out.trans (hb2.mono HB0.out.size))
          have c0 : w2.cell? ⟨w.heap.size, 0, none⟩ = some (.int .i64 0) := K2.out.cell (j := 0) rfl
          have c1 : w2.cell? ⟨w.heap.size, 1, none⟩ = some (.int .i64 0) := K2.out.cell (j := 1) rfl
          have c2 : w2.cell? ⟨w.heap.size, 2, none⟩ = some (.int .i64 0) := K2.out.cell (j := 2) rfl
          have z0 := K2.out.frozen 0
          have z1 := K2.out.frozen 1
          have z2 := K2.out.frozen 2
          clear hb2 CF S1
          obtain ⟨ok, HO⟩ : ∃ ok, Hid (okh (hs l t) = ok) := ⟨_, rfl⟩
          rw [HO.out] at HE ⊢
          cases ok with
          | false =>
            have HE2 : Hid (nxE l t (k : Int) C false = tg 0 0 0 120) := HE.out
            go_wp2
            exact bodyPost_ret (v := .tuple #[.agg #[.int .i64 0, .int .i64 0, .int .i64 0], .int .i64 120]) (by simp [results, Try.results19, go_sem, c0, c1, c2]) rfl ⟨HE2.out.symm, by first | exact B2.out | exact bset (bset (bset B2.out _ (by simp)) _ (by simp)) _ (by simp)⟩
          | true =>
            have HE2 : Hid (nxE l t (k : Int) C false = tg (k : Int) (itr (fwd (hs l t)) (C' + 1) k : Nat) 1 0) := HE.out
            rw [show fov true (fwd (hs l t)) C' k = itr (fwd (hs l t)) (C' + 1) k from rfl]
            obtain ⟨X, HX⟩ : ∃ X, Hid (itr (fwd (hs l t)) (C' + 1) k = X) := ⟨_, rfl⟩
            rw [HX.out] at HE2 ⊢
            go_wp2
            exact bodyPost_ret (v := .tuple #[.agg #[.int .i64 (k : Int), .int .i64 (X : Int), .int .i64 1], .int .i64 0]) (by simp [results, Try.results19, go_sem, c0, c1, c2]) rfl ⟨HE2.out.symm, by first | exact B2.out | exact bset (bset (bset B2.out _ (by simp)) _ (by simp)) _ (by simp)⟩
        | true =>
          go_enter Try.func19, Try.ntmps19
          go_wp2_with fail
          refine (CI.out _).mono ?_
          rintro e w' ⟨rfl, hw⟩
          subst hw
          go_wp2_with fail
          refine CS.out.mono ?_
          rintro e w1 ⟨Sb, rfl, hs1, hb1⟩
          have S1 := Hid.mk' hs1
          have CF := Hid.mk' (follow_back base _ w1 Sb P ao n c t l k k C' hkn hC9 hl HP0 HT0 S1)
          clear hs1 hb1 CI CS
          go_wp2_with fail
          refine CF.out.mono ?_
          rintro e w2 ⟨rfl, hb2⟩
          have K2 := Hid.mk' (HK0.out.keep hb2)
          have B2 := Hid.mk' (HB0.out.trans (hb2.mono HB0.out.size))
          have c0 : w2.cell? ⟨w.heap.size, 0, none⟩ = some (.int .i64 0) := K2.out.cell (j := 0) rfl
          have c1 : w2.cell? ⟨w.heap.size, 1, none⟩ = some (.int .i64 0) := K2.out.cell (j := 1) rfl
          have c2 : w2.cell? ⟨w.heap.size, 2, none⟩ = some (.int .i64 0) := K2.out.cell (j := 2) rfl
          have z0 := K2.out.frozen 0
          have z1 := K2.out.frozen 1
          have z2 := K2.out.frozen 2
          clear hb2 CF S1
          obtain ⟨ok, HO⟩ : ∃ ok, Hid (okh (hs l t) = ok) := ⟨_, rfl⟩
          rw [HO.out] at HE ⊢
          cases ok with
          | false =>
            have HE2 : Hid (nxE l t (k : Int) C true = tg 0 0 0 120) := HE.out
            go_wp2
            exact bodyPost_ret (v := .tuple #[.agg #[.int .i64 0, .int .i64 0, .int .i64 0], .int .i64 120]) (by simp [results, Try.results19, go_sem, c0, c1, c2]) rfl ⟨HE2.out.symm, by first | exact B2.out | exact bset (bset (bset B2.out _ (by simp)) _ (by simp)) _ (by simp)⟩
          | true =>
            have HE2 : Hid (nxE l t (k : Int) C true = tg (k : Int) (itr (bwd (hs l t)) (C' + 1) k : Nat) 1 0) := HE.out
            rw [show fov true (bwd (hs l t)) C' k = itr (bwd (hs l t)) (C' + 1) k from rfl]
            obtain ⟨X, HX⟩ : ∃ X, Hid (itr (bwd (hs l t)) (C' + 1) k = X) := ⟨_, rfl⟩
            rw [HX.out] at HE2 ⊢
            go_wp2
            exact bodyPost_ret (v := .tuple #[.agg #[.int .i64 (k : Int), .int .i64 (X : Int), .int .i64 1], .int .i64 0]) (by simp [results, Try.results19, go_sem, c0, c1, c2]) rfl ⟨HE2.out.symm, by first | exact B2.out | exact bset (bset (bset B2.out _ (by simp)) _ (by simp)) _ (by simp)⟩
  · rw [decide_eq_false hp] at CI
    have HE : Hid (nxE l t k C back = tg 0 0 0 2) := by unfold Hid nxE okA; rw [decide_eq_false (by omega)]; rfl
    clear hp
    go_enter Try.func19, Try.ntmps19
    go_wp2_with (go_at_call 35; refine (CI.out _).mono ?_; rintro e w' ⟨rfl, hw⟩; subst hw)
    exact bodyPost_ret (v := .tuple #[.agg #[.int .i64 0, .int .i64 0, .int .i64 0], .int .i64 2]) (by simp [results, Try.results19, go_sem]) rfl ⟨HE.out.symm, by first | exact bAlloc (Below.refl _ _) _ | exact bset (bset (bset (bAlloc (Below.refl _ _) _) _ (by simp)) _ (by simp)) _ (by simp)⟩
end Go.Proofs.Ytaakgoojcogbcaa
