/- Edits cut down, as plain data. -/
import Derived.Test.YthklmdnamkjgmaaApw
namespace Go.Proofs.Ythklmdnamkjgmaa

theorem fit_split {T : List UInt8} {d : Ed} (h : fitB T d = true) : ∃ X Z, T = X ++ d.O ++ Z ∧ d.a = (X.length : Int) := by
  obtain ⟨p, h1, h2, h3⟩ := fitB_iff.1 h
  refine ⟨T.take p, T.drop (p + d.O.length), ?_, by rw [h1, List.length_take]; congr 1; omega⟩
  rw [List.append_assoc]
  conv => rhs; rhs; lhs; rw [← h3]
  rw [← List.drop_drop, List.take_append_drop, List.take_append_drop]
theorem split_fit (X O N Z : List UInt8) : fitB (X ++ O ++ Z) ⟨(X.length : Int), O, N⟩ = true ∧ stp (X ++ O ++ Z) ⟨(X.length : Int), O, N⟩ = X ++ N ++ Z := by
  constructor
  · refine fitB_iff.2 ⟨X.length, rfl, by simp only [List.length_append]; omega, ?_⟩
    dsimp only
    rw [List.append_assoc, List.drop_left' rfl, List.take_left' rfl]
  · show (X ++ O ++ Z).take X.length ++ N ++ (X ++ O ++ Z).drop (X.length + O.length) = _
    rw [← List.drop_drop, List.append_assoc X, List.drop_left' rfl, List.drop_left' rfl, List.take_left' rfl]
/-- the parts of an edit that is cut down -/
theorem cut_parts (d : Ed) : ∃ P O2 N2 S, d.O = P ++ O2 ++ S ∧ d.N = P ++ N2 ++ S ∧ cut d = ⟨IntKind.i64.wrap (d.a + (P.length : Int)), O2, N2⟩ ∧ cb O2 N2 = 0 ∧ ce O2 N2 = 0 := by
  obtain ⟨n, hn⟩ : ∃ n, n = cb d.O d.N := ⟨_, rfl⟩
  have hl := cb_le d.O d.N
  rw [← hn] at hl
  have ht := cb_take d.O d.N
  rw [← hn] at ht
  obtain ⟨O1, hO1⟩ : ∃ O1, O1 = d.O.drop n := ⟨_, rfl⟩
  obtain ⟨N1, hN1⟩ : ∃ N1, N1 = d.N.drop n := ⟨_, rfl⟩
  have h0 : cb O1 N1 = 0 := by rw [hO1, hN1, hn]; exact cb_drop _ _
  obtain ⟨m, hm⟩ : ∃ m, m = ce O1 N1 := ⟨_, rfl⟩
  have hml := ce_le O1 N1
  rw [← hm] at hml
  have hd := ce_drop O1 N1
  rw [← hm] at hd
  refine ⟨d.O.take n, O1.take (O1.length - m), N1.take (N1.length - m), O1.drop (O1.length - m), ?_, ?_, ?_, ?_, ?_⟩
  · rw [List.append_assoc, List.take_append_drop, hO1, List.take_append_drop]
  · rw [List.append_assoc, hd, List.take_append_drop, ht, hN1, List.take_append_drop]
  · unfold cut
    dsimp only
    rw [← hn, ← hO1, ← hN1, ← hm, List.length_take, show min n d.O.length = n by omega]
  · refine cb_is (Nat.zero_le _) (Nat.zero_le _) (fun i hi => by omega) ?_
    by_cases e1 : O1.length - m = 0
    · left; rw [e1]; simp
    · by_cases e2 : N1.length - m = 0
      · right; left; rw [e2]; simp
      · right; right
        have at0 : ∀ (l : List UInt8) (k : Nat), k ≠ 0 → at8 (l.take k) 0 = at8 l 0 := fun l k hk => by
          have : 0 < k := by omega
          simp [at8, List.getD, this]
        rw [at0 _ _ e1, at0 _ _ e2]
        rcases cb_stop O1 N1 with h | h | h
        · rw [h0] at h; omega
        · rw [h0] at h; omega
        · rw [h0] at h; exact h
  · obtain ⟨k1, hk1⟩ : ∃ k1, k1 = O1.length - m := ⟨_, rfl⟩
    obtain ⟨k2, hk2⟩ : ∃ k2, k2 = N1.length - m := ⟨_, rfl⟩
    rw [← hk1, ← hk2]
    unfold ce
    refine cb_is (Nat.zero_le _) (Nat.zero_le _) (fun i hi => by omega) ?_
    by_cases e1 : k1 = 0
    · left; rw [e1]; simp
    · by_cases e2 : k2 = 0
      · right; left; rw [e2]; simp
      · right; right
        have lk1 : (O1.take k1).length = k1 := by rw [List.length_take]; omega
        have lk2 : (N1.take k2).length = k2 := by rw [List.length_take]; omega
        rw [at8_rev (by omega), at8_rev (by omega), lk1, lk2]
        have atk : ∀ (l : List UInt8) (k i : Nat), i < k → at8 (l.take k) i = at8 l i := fun l k i hk => by simp [at8, List.getD, hk]
        rw [atk _ _ _ (by omega), atk _ _ _ (by omega)]
        rcases ce_stop O1 N1 with h | h | ⟨_, _, h⟩
        · omega
        · omega
        · rw [← hm] at h
          rw [show k1 - 1 - 0 = O1.length - 1 - m by omega, show k2 - 1 - 0 = N1.length - 1 - m by omega]
          exact h
theorem wrap_wrap (x : Int) : IntKind.i64.wrap (IntKind.i64.wrap x) = IntKind.i64.wrap x := by
  rw [IntKind.wrap_i64, IntKind.wrap_i64]; omega
theorem cut_none {a : Int} {O N : List UInt8} (h1 : cb O N = 0) (h2 : ce O N = 0) : cut ⟨a, O, N⟩ = ⟨IntKind.i64.wrap a, O, N⟩ := by
  unfold cut
  dsimp only
  rw [h1]
  simp only [List.drop_zero, h2]
  simp
theorem cut_cut (d : Ed) : cut (cut d) = cut d := by
  obtain ⟨P, O2, N2, S, -, -, h3, h4, h5⟩ := cut_parts d
  rw [h3, cut_none h4 h5, wrap_wrap]
theorem cut_ne {d : Ed} (h : d.O ≠ d.N) : (cut d).O ≠ (cut d).N := by
  obtain ⟨P, O2, N2, S, h1, h2, h3, -, -⟩ := cut_parts d
  rw [h3]
  intro e
  dsimp only at e
  exact h (by rw [h1, h2, e])
theorem trim_trim (D : List Ed) : trim (trim D) = trim D := by
  have h : ∀ d ∈ trim D, d.O ≠ d.N ∧ cut d = d := fun d hd => by
    unfold trim at hd
    obtain ⟨x, hx, rfl⟩ := List.mem_map.1 hd
    have := (List.mem_filter.1 hx).2
    exact ⟨cut_ne (by simpa using this), cut_cut x⟩
  generalize trim D = L at *
  unfold trim
  rw [List.filter_eq_self.2 (fun d hd => by simpa using (h d hd).1)]
  conv => rhs; rw [← List.map_id L]
  exact List.map_congr_left fun d hd => (h d hd).2
theorem fit_cut {T : List UInt8} {d : Ed} (h : fitB T d = true) (hT : T.length ≤ 140737488355328) : fitB T (cut d) = true ∧ stp T (cut d) = stp T d ∧ d.a ≤ (cut d).a := by
  obtain ⟨X, Z, e1, e2⟩ := fit_split h
  obtain ⟨P, O2, N2, S, h1, h2, h3, -, -⟩ := cut_parts d
  obtain ⟨a, O, N⟩ := d
  dsimp only at e1 e2 h1 h2 h3
  subst e2 h1 h2
  have hl : T.length = X.length + (P.length + O2.length + S.length) + Z.length := by rw [e1]; simp only [List.length_append]
  have hw : IntKind.i64.wrap ((X.length : Int) + (P.length : Int)) = (((X ++ P).length : Nat) : Int) := by rw [IntKind.wrap_i64, List.length_append]; omega
  rw [h3, hw]
  have ee : T = (X ++ P) ++ O2 ++ (S ++ Z) := by rw [e1]; simp only [List.append_assoc]
  obtain ⟨f1, f2⟩ := split_fit (X ++ P) O2 N2 (S ++ Z)
  obtain ⟨f3, f4⟩ := split_fit X (P ++ O2 ++ S) (P ++ N2 ++ S) Z
  refine ⟨by rw [ee]; exact f1, ?_, by rw [List.length_append]; simp; omega⟩
  rw [e1, f4, show X ++ (P ++ O2 ++ S) ++ Z = (X ++ P) ++ O2 ++ (S ++ Z) by simp only [List.append_assoc], f2]
  simp only [List.append_assoc]
theorem stp_same {T : List UInt8} {d : Ed} (h : fitB T d = true) (he : d.O = d.N) : stp T d = T := by
  obtain ⟨X, Z, e1, e2⟩ := fit_split h
  obtain ⟨a, O, N⟩ := d
  dsimp only at e1 e2 he
  subst he e2
  rw [e1]
  exact (split_fit X O O Z).2
theorem trim_cons (d : Ed) (D : List Ed) : trim (d :: D) = (if (d.O == d.N) = true then [] else [cut d]) ++ trim D := by
  unfold trim
  by_cases h : d.O = d.N
  · simp [h]
  · have h2 : (d.O == d.N) = false := by simpa using h
    have h3 : (d.O != d.N) = true := by simp [bne, h2]
    simp [h2, h3]
theorem mod_tail {T : List UInt8} {d : Ed} {D : List Ed} (h : Mod T (d :: D)) (hf : fitB T d = true) : Mod (stp T d) D := fun k U hU => h (k + 1) U (by
  rw [List.take_succ_cons]
  show (if fitB T d then app (stp T d) (D.take k) else none) = some U
  rw [if_pos hf]; exact hU)
theorem mod_head {T : List UInt8} {D : List Ed} (h : Mod T D) : T.length ≤ 140737488355328 := h 0 T (by rw [List.take_zero]; rfl)
theorem app_trim {T U : List UInt8} {D : List Ed} (h : app T D = some U) (hM : Mod T D) : app T (trim D) = some U := by
  induction D generalizing T with
  | nil => exact h
  | cons d D ih =>
    simp only [app] at h
    split at h
    · rename_i hf
      have h1 := ih h (mod_tail hM hf)
      rw [trim_cons]
      by_cases he : d.O = d.N
      · rw [if_pos (by simpa using he), List.nil_append]
        rwa [stp_same hf he] at h1
      · rw [if_neg (by simpa using he)]
        obtain ⟨f1, f2, -⟩ := fit_cut hf (mod_head hM)
        show (if fitB T (cut d) then app (stp T (cut d)) (trim D) else none) = some U
        rw [if_pos f1, f2]; exact h1
    · cases h
theorem sz_fit (D : List Ed) : IntKind.i64.wrap (sz D) = sz D := by
  rcases List.eq_nil_or_concat D with rfl | ⟨D', d, rfl⟩
  · rfl
  · rw [List.concat_eq_append, sz_snoc, wrap_wrap]
theorem list_snoc_ind {α : Type} {p : List α → Prop} (h0 : p []) (h1 : ∀ l x, p l → p (l ++ [x])) (l : List α) : p l := by
  have : ∀ (n : Nat) (l : List α), l.length = n → p l := fun n => by
    induction n with
    | zero => intro l hl; rw [List.eq_nil_of_length_eq_zero hl]; exact h0
    | succ n ih =>
      intro l hl
      rcases List.eq_nil_or_concat l with rfl | ⟨l', x, rfl⟩
      · simp at hl
      · rw [List.concat_eq_append] at hl ⊢
        exact h1 _ _ (ih _ (by simpa using hl))
  exact this _ l rfl
theorem sz_trim (D : List Ed) : sz (trim D) = sz D := by
  refine list_snoc_ind (p := fun D => sz (trim D) = sz D) rfl (fun D d ih => ?_) D
  rw [trim_snoc, sz_snoc]
  by_cases he : d.O = d.N
  · rw [if_pos (by simpa using he), List.append_nil, ih, he, Int.sub_self, Int.add_zero, sz_fit]
  · rw [if_neg (by simpa using he), sz_snoc, ih]
    obtain ⟨P, O2, N2, S, h1, h2, h3, -, -⟩ := cut_parts d
    congr 2
    rw [h3, h1, h2]
    simp only [List.length_append]
    omega
theorem sz_eq (D : List Ed) (h : nsum D + osum D ≤ 4611686018427387904) : sz D = (nsum D : Int) - (osum D : Int) := by
  revert h
  refine list_snoc_ind (p := fun D => nsum D + osum D ≤ 4611686018427387904 → sz D = (nsum D : Int) - (osum D : Int)) (fun _ => rfl) (fun D d ih h => ?_) D
  have e1 : nsum (D ++ [d]) = nsum D + d.N.length := by simp [nsum]
  have e2 : osum (D ++ [d]) = osum D + d.O.length := by simp [osum]
  rw [e1, e2] at h ⊢
  rw [sz_snoc, ih (by omega), IntKind.wrap_i64]
  omega
theorem nsum_inv (D : List Ed) : nsum (inv D) = osum D := by
  induction D with
  | nil => rfl
  | cons d D ih => rw [inv_cons, nsum_app, ih]; simp [nsum, osum, swp]; omega
theorem osum_inv (D : List Ed) : osum (inv D) = nsum D := by
  have := nsum_inv (inv D)
  rw [inv_inv] at this
  exact this.symm
theorem nsum_trim (D : List Ed) : nsum (trim D) ≤ nsum D := by
  induction D with
  | nil => exact Nat.le_refl _
  | cons d D ih =>
    rw [trim_cons, nsum_app]
    have e : nsum (d :: D) = d.N.length + nsum D := by simp [nsum]
    rw [e]
    split
    · simp [nsum] at ih ⊢; omega
    · obtain ⟨P, O2, N2, S, h1, h2, h3, -, -⟩ := cut_parts d
      have : nsum [cut d] = N2.length := by rw [h3]; simp [nsum]
      rw [this, h2]
      simp only [List.length_append]; omega
theorem fst_le {D : List Ed} {d : Ed} (h : d ∈ D) : fst D ≤ d.a := by
  revert h
  refine list_snoc_ind (p := fun D => d ∈ D → fst D ≤ d.a) (fun h => by simp at h) (fun D x ih h => ?_) D
  by_cases hD : D = []
  · subst hD
    simp at h; subst h; exact Int.le_refl _
  · rw [fst_snoc hD]
    rcases List.mem_append.1 h with h | h
    · have := ih h; omega
    · simp at h; subst h; omega
theorem fst_mem {D : List Ed} (h : D ≠ []) : ∃ d ∈ D, fst D = d.a := by
  revert h
  refine list_snoc_ind (p := fun D => D ≠ [] → ∃ d ∈ D, fst D = d.a) (fun h => absurd rfl h) (fun D x ih _ => ?_) D
  by_cases hD : D = []
  · subst hD; exact ⟨x, by simp, rfl⟩
  · obtain ⟨d, h1, h2⟩ := ih hD
    rw [fst_snoc hD]
    by_cases hlt : fst D ≤ x.a
    · exact ⟨d, by simp [h1], by omega⟩
    · exact ⟨x, by simp, by omega⟩
theorem fst_trim {T U : List UInt8} {D : List Ed} (h : app T D = some U) (hM : Mod T D) (hne : trim D ≠ []) : fst D ≤ fst (trim D) := by
  have key : ∀ (T : List UInt8) (D : List Ed), app T D = some U → Mod T D → ∀ x ∈ trim D, ∃ d ∈ D, d.a ≤ x.a := fun T D => by
    induction D generalizing T with
    | nil => intro _ _ x hx; simp [trim] at hx
    | cons d D ih =>
      intro h hM x hx
      simp only [app] at h
      split at h
      · rename_i hf
        rw [trim_cons] at hx
        rcases List.mem_append.1 hx with hx | hx
        · split at hx
          · simp at hx
          · simp at hx; subst hx
            exact ⟨d, by simp, (fit_cut hf (mod_head hM)).2.2⟩
        · obtain ⟨y, hy, hyx⟩ := ih _ h (mod_tail hM hf) x hx
          exact ⟨y, by simp [hy], hyx⟩
      · cases h
  obtain ⟨x, hx, e⟩ := fst_mem hne
  obtain ⟨d, hd, hdx⟩ := key T D h hM x hx
  have := fst_le hd
  omega
/-- between two texts -/
theorem btw_app (A B : List UInt8) (hA : A.length ≤ 140737488355328) (hB : B.length ≤ 140737488355328) : app A (trim [⟨0, A, B⟩]) = some B ∧ Mod A (trim [⟨0, A, B⟩]) ∧ app B (inv (trim [⟨0, A, B⟩])) = some A ∧ Mod B (inv (trim [⟨0, A, B⟩])) := by
  have hf := split_fit [] A B []
  simp only [List.nil_append, List.append_nil, List.length_nil] at hf
  have h0 : app A [⟨0, A, B⟩] = some B := by
    show (if fitB A ⟨0, A, B⟩ then app (stp A ⟨0, A, B⟩) [] else none) = some B
    rw [if_pos (show fitB A ⟨0, A, B⟩ = true from hf.1), show stp A ⟨0, A, B⟩ = B from hf.2]; rfl
  have hM : Mod A [⟨0, A, B⟩] := fun k U hU => by
    match k with
    | 0 => rw [List.take_zero] at hU; simp [app] at hU; subst hU; exact hA
    | k + 1 => rw [List.take_of_length_le (by simp), h0] at hU; simp at hU; subst hU; exact hB
  have h1 := app_trim h0 hM
  have h2 := app_back h1
  have hl := trim_len [(⟨0, A, B⟩ : Ed)]
  generalize trim [(⟨0, A, B⟩ : Ed)] = L at *
  simp at hl
  refine ⟨h1, fun k U hU => ?_, h2, fun k U hU => ?_⟩
  · match k with
    | 0 => rw [List.take_zero] at hU; simp [app] at hU; subst hU; exact hA
    | k + 1 => rw [List.take_of_length_le (by omega), h1] at hU; simp at hU; subst hU; exact hB
  · match k with
    | 0 => rw [List.take_zero] at hU; simp [app] at hU; subst hU; exact hB
    | k + 1 => rw [List.take_of_length_le (by rw [inv_length]; omega), h2] at hU; simp at hU; subst hU; exact hA
theorem btw_nil (A B : List UInt8) : (trim [(⟨0, A, B⟩ : Ed)]).length = if (A == B) = true then 0 else 1 := by
  rw [trim_cons]
  dsimp only
  split <;> rfl
end Go.Proofs.Ythklmdnamkjgmaa
