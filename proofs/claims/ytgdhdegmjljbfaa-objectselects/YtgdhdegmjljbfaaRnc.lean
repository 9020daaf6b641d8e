/- class.Runs, and where a text is cut into runs. -/
import Derived.Test.YtgdhdegmjljbfaaLists
import Derived.Test.YtgdhdegmjljbfaaKnd
import Derived.Deep.QuietTactic
import Derived.BigQuiet
namespace Go.Proofs.Ytgdhdegmjljbfaa
open Go.RowKit
/-- a run ends behind the byte i -/
def cut (K : Nat → Int) (n i : Nat) : Bool := decide (i + 1 = n ∨ ¬ K i = K (i + 1))
/-- the ends of the runs among the first k bytes -/
def rn (K : Nat → Int) (n k : Nat) : List Nat := ((List.range k).filter (cut K n)).map (· + 1)
theorem rn_yes {K : Nat → Int} {n k : Nat} (h : cut K n k = true) : rn K n (k + 1) = rn K n k ++ [k + 1] := by
  unfold rn; rw [List.range_succ, List.filter_append, List.map_append]; simp [h]
theorem rn_no {K : Nat → Int} {n k : Nat} (h : cut K n k = false) : rn K n (k + 1) = rn K n k := by
  unfold rn; rw [List.range_succ, List.filter_append, List.map_append]; simp [h]
theorem rn_len (K : Nat → Int) (n k : Nat) : (rn K n k).length ≤ k := by
  unfold rn; rw [List.length_map]; exact Nat.le_trans (List.length_filter_le _ _) (by rw [List.length_range]; exact Nat.le_refl _)
theorem rn_more (K : Nat → Int) (n f : Nat) : ∀ d, ∃ X, rn K n (f + d) = rn K n f ++ X
  | 0 => ⟨[], by simp⟩
  | d + 1 => by
    obtain ⟨X, hX⟩ := rn_more K n f d
    cases h : cut K n (f + d) with
    | true => exact ⟨X ++ [f + d + 1], by rw [← Nat.add_assoc, rn_yes h, hX, List.append_assoc]⟩
    | false => exact ⟨X, by rw [← Nat.add_assoc, rn_no h, hX]⟩
theorem rn_calm (K : Nat → Int) (n f : Nat) : ∀ d, (∀ j, f ≤ j → j < f + d → cut K n j = false) → rn K n (f + d) = rn K n f
  | 0, _ => by simp
  | d + 1, h => by rw [← Nat.add_assoc, rn_no (h _ (by omega) (by omega)), rn_calm K n f d (fun j h1 h2 => h j h1 (by omega))]
/-- the next run's end -/
theorem first_cut (K : Nat → Int) (n : Nat) : ∀ d f, f + d = n → 0 < d → ∃ e, f < e ∧ e ≤ n ∧ cut K n (e - 1) = true ∧ ∀ j, f ≤ j → j + 1 < e → cut K n j = false
  | 0, _, _, h => by omega
  | d + 1, f, h, _ => by
    cases hc : cut K n f with
    | true => exact ⟨f + 1, by omega, by omega, hc, fun j h1 h2 => by omega⟩
    | false =>
      have hd : 0 < d := by
        rcases Nat.eq_zero_or_pos d with h0 | h0
        · subst h0
          have : cut K n f = true := decide_eq_true (.inl (by omega))
          rw [hc] at this; cases this
        · exact h0
      obtain ⟨e, h1, h2, h3, h4⟩ := first_cut K n d (f + 1) (by omega) hd
      refine ⟨e, by omega, h2, h3, fun j h5 h6 => ?_⟩
      rcases Nat.lt_or_ge f j with h7 | h7
      · exact h4 j (by omega) h6
      · obtain rfl : j = f := by omega
        exact hc
theorem calm_same {K : Nat → Int} {n f e : Nat} (h : ∀ j, f ≤ j → j + 1 < e → cut K n j = false) : ∀ d, f + d < e → K (f + d) = K f
  | 0, _ => rfl
  | d + 1, hd => by
    have h1 := h (f + d) (by omega) (by omega)
    have h2 := calm_same h d (by omega)
    have h3 := of_decide_eq_false h1
    rw [← Nat.add_assoc, ← h2]
    apply Classical.byContradiction
    intro h4
    exact h3 (.inr fun h5 => h4 h5.symm)
/-- behind i runs, at f -/
theorem run_next {K : Nat → Int} {n f : Nat} (hf : f < n) : ∃ e, f < e ∧ e ≤ n ∧ rn K n e = rn K n f ++ [e] ∧ (rn K n n)[(rn K n f).length]? = some e ∧ (∀ j, f ≤ j → j < e → K j = K f) ∧ (e < n → ¬ K e = K f) := by
  obtain ⟨e, h1, h2, h3, h4⟩ := first_cut K n (n - f) f (by omega) (by omega)
  have hr : rn K n e = rn K n f ++ [e] := by
    have e1 : e - 1 + 1 = e := by omega
    have := rn_yes h3
    rw [e1] at this
    rw [this]
    have h5 := rn_calm K n f (e - 1 - f) (fun j h6 h7 => h4 j h6 (by omega))
    rw [show f + (e - 1 - f) = e - 1 from by omega] at h5
    rw [h5]
  have hK : ∀ j, f ≤ j → j < e → K j = K f := fun j h5 h6 => by
    have := calm_same h4 (j - f) (by omega)
    rwa [show f + (j - f) = j from by omega] at this
  refine ⟨e, h1, h2, hr, ?_, hK, fun h5 h6 => ?_⟩
  · obtain ⟨X, hX⟩ := rn_more K n e (n - e)
    rw [show e + (n - e) = n from by omega] at hX
    rw [hX, hr, List.append_assoc, List.getElem?_append_right (Nat.le_refl _), Nat.sub_self]; rfl
  · have h7 := of_decide_eq_true h3
    have h8 := hK (e - 1) (by omega) (by omega)
    rw [show e - 1 + 1 = e from by omega] at h7
    rcases h7 with h7 | h7
    · omega
    · exact h7 (h8.trans h6.symm)

/-- the kind of the byte i -/
def kn (l : List UInt8) (big : Bool) (i : Nat) : Int := kd ((at8 l i).toNat : Int) big
theorem kd_big {x y : Int} (h : kd x false = kd y false) : kd x true = kd y true := by
  unfold kd at h ⊢
  simp only [Bool.false_eq_true, false_or, true_or, if_true] at h ⊢
  repeat' split at h
  all_goals (first | omega | (repeat' split) <;> omega)
theorem info3 : (Try.prog.info? 3).map (fun i => (i.zero, i.size, i.bytes)) = some (some (.int .i64 0), 1, 8) := by kernel_rfl
def iv (l : List Nat) : List Value := l.map fun (x : Nat) => Value.int .i64 (x : Int)
theorem iv_length (l : List Nat) : (iv l).length = l.length := by simp [iv]
theorem iv_one (l : List Nat) : ∀ u ∈ iv l, u.oneCell' = true := by
  intro u hu; obtain ⟨x, _, rfl⟩ := List.mem_map.1 hu; rfl
theorem iv_snoc (l : List Nat) (k : Nat) : iv (l ++ [k]) = iv l ++ [.int .i64 (k : Int)] := by simp [iv]
theorem iv_at {l : List Nat} {i k : Nat} (h : l[i]? = some k) : (iv l)[i]? = some (.int .i64 (k : Int)) := by simp [iv, h]
theorem iv_snoc' (l : List Nat) (k : Nat) : iv (l ++ [k + 1]) = iv l ++ [.int .i64 ((k : Int) + 1)] := by simp [iv]

set_option maxRecDepth 8000 in
set_option maxHeartbeats 4000000 in
theorem runs_any (ao : Option Addr) (n c : Nat) (l : List UInt8) (big : Bool) (w : World) (hn : n ≤ 4398046511104) (HT : Hid (Tx w ao n c l)) :
    Calls Try.prog 54 #[.slice ao n c, .bool big] w fun e w' => ∃ v, e = .returned v ∧ w'.ownsRow w.heap.size 3 1 v (rn (kn l big) n n).length (iv (rn (kn l big) n n)) ∧ Below w.heap.size w w' := by
  obtain ⟨i3, hi3, hz3, hs3, hb3⟩ := info_parts info3
  go_enter Try.func54, Try.ntmps54
  go_wp2_with fail
  go_loopw [5, 9] (fun u v wr => ∃ k : Nat, v = .int .i64 k ∧ k ≤ n ∧ wr.ownsRow w.heap.size 3 1 u (rn (kn l big) n k).length (iv (rn (kn l big) n k)) ∧ Below w.heap.size w wr) (fun _ v _ => n - (intOf v).toNat)
  case atStart => exact ⟨0, rfl, Nat.zero_le _, World.ownsRow_nil _ _ _ _, Below.refl _ _⟩
  case round =>
    obtain ⟨k, rfl, hk, hO, hB⟩ := hrel
    have HO := Hid.mk' hO
    have HB := Hid.mk' hB
    have HR := Hid.mk' (rn_len (kn l big) n k)
    clear hO hB
    by_cases hlt : k < n
    · have hk0 : (0 : Int) ≤ (k : Int) := by omega
      have hk1 : (k : Int) < (n : Int) := by omega
      have hkm : (k : Int) ≤ 4398046511104 := by omega
      obtain ⟨g, o, rfl, hc⟩ := (HT.out.keep HB.out).at (by omega)
      have c1 := hc k hlt
      obtain ⟨ax, cx, hu⟩ := own_shape HO.out
      subst hu
      by_cases hend : k + 1 = n
      · have he : ((k : Int) + 1 == (n : Int)) = true := by simp; omega
        have HC : Hid (rn (kn l big) n (k + 1) = rn (kn l big) n k ++ [k + 1]) := rn_yes (decide_eq_true (.inl hend))
        clear hc
        go_wp2
        go_quiet (fail)
        have B9 := Hid.mk' (below_drewN wr nq)
        generalize wr.drewN nq = w9 at *
        go_wp2_with (at_builtin; refine append_srv rfl (.tmp 33) (.tmp 36) 63 rfl w.heap.size 3 i3 (.int .i64 0) 1 8 Try.underlying63 hi3 hz3 hs3 hb3 rfl (by decide) (.slice ax (rn (kn l big) n k).length cx) (rn (kn l big) n k).length (iv (rn (kn l big) n k)) rfl ((own_keep HO.out B9.out).alloc _) (.slice (some ⟨w9.heap.size, 0, none⟩) 1 1) 1 [.int .i64 ((k : Int) + 1)] rfl (.inr ⟨⟨w9.heap.size, 0, none⟩, 1, rfl, fun j t hj => lit_cells w9 _ 3 j t hj⟩) rfl ?r1 ?r2 ?r3 ?r4 ?_)
        case r1 => intro u hu; simp at hu; subst hu; rfl
        case r2 => have := HR.out; unfold maxLen; omega
        case r3 => have := HR.out; omega
        case r4 => have := HB.out.size; have := B9.out.size; simp; omega
        intro v2 w3 hown2 hgrow2 hfr2
        have B3 : Hid (Below w.heap.size w w3) := ((bT HB.out B9.out).alloc (Nat.le_trans HB.out.size B9.out.size) _).grown hgrow2 (by have := HB.out.size; have := B9.out.size; simp; omega) (fun k hk => (HO.out.lt k hk).1)
        rw [← iv_snoc' _ k] at hown2
        have O3 : Hid (w3.ownsRow w.heap.size 3 1 v2 (rn (kn l big) n (k + 1)).length (iv (rn (kn l big) n (k + 1)))) := by unfold Hid; rw [HC.out]; simpa using hown2
        clear hown2 hgrow2 hfr2 HO HB B9
        go_wp2
        go_roundw
        case rel => exact ⟨k + 1, by go_num, by omega, O3.out, B3.out⟩
        case measure => simp [intOf]; omega
      · have hw1 : IntKind.i64.wrap ((k : Int) + 1) = (k : Int) + 1 := by rw [IntKind.wrap_i64]; omega
        have he : ((k : Int) + 1 == (n : Int)) = false := by simp; omega
        have he0 : (0 : Int) ≤ (k : Int) + 1 := by omega
        have he1 : (k : Int) + 1 < (n : Int) := by omega
        have c2 := hc (k + 1) (by omega)
        clear hc
        by_cases hK : kn l big k = kn l big (k + 1)
        · have hk9 : (kd ((at8 l k).toNat : Int) big != kd ((at8 l (k + 1)).toNat : Int) big) = false := by
            have : kd ((at8 l k).toNat : Int) big = kd ((at8 l (k + 1)).toNat : Int) big := hK
            rw [this]; simp
          have HC : Hid (rn (kn l big) n (k + 1) = rn (kn l big) n k) := rn_no (decide_eq_false (fun h => by rcases h with h | h; exact hend h; exact h hK))
          go_wp2
          go_quiet ((go_at_call 15; exact Calls.quiet_of_same (of_any _ _ _)))
          have B9 := Hid.mk' (below_drewN wr nq)
          generalize wr.drewN nq = w9 at *
          go_wp2
          go_roundw
          case rel => exact ⟨k + 1, by go_num, by omega, by rw [HC.out]; exact own_keep HO.out B9.out, bT HB.out B9.out⟩
          case measure => simp [intOf]; omega
        · have hk9 : (kd ((at8 l k).toNat : Int) big != kd ((at8 l (k + 1)).toNat : Int) big) = true := by
            rw [bne_iff_ne]; exact hK
          have HC : Hid (rn (kn l big) n (k + 1) = rn (kn l big) n k ++ [k + 1]) := rn_yes (decide_eq_true (.inr hK))
          go_wp2
          go_quiet ((go_at_call 15; exact Calls.quiet_of_same (of_any _ _ _)))
          have B9 := Hid.mk' (below_drewN wr nq)
          generalize wr.drewN nq = w9 at *
          go_wp2_with (at_builtin; refine append_srv rfl (.tmp 33) (.tmp 36) 63 rfl w.heap.size 3 i3 (.int .i64 0) 1 8 Try.underlying63 hi3 hz3 hs3 hb3 rfl (by decide) (.slice ax (rn (kn l big) n k).length cx) (rn (kn l big) n k).length (iv (rn (kn l big) n k)) rfl ((own_keep HO.out B9.out).alloc _) (.slice (some ⟨w9.heap.size, 0, none⟩) 1 1) 1 [.int .i64 ((k : Int) + 1)] rfl (.inr ⟨⟨w9.heap.size, 0, none⟩, 1, rfl, fun j t hj => lit_cells w9 _ 3 j t hj⟩) rfl ?r1 ?r2 ?r3 ?r4 ?_)
          case r1 => intro u hu; simp at hu; subst hu; rfl
          case r2 => have := HR.out; unfold maxLen; omega
          case r3 => have := HR.out; omega
          case r4 => have := HB.out.size; have := B9.out.size; simp; omega
          intro v2 w3 hown2 hgrow2 hfr2
          have B3 : Hid (Below w.heap.size w w3) := ((bT HB.out B9.out).alloc (Nat.le_trans HB.out.size B9.out.size) _).grown hgrow2 (by have := HB.out.size; have := B9.out.size; simp; omega) (fun k hk => (HO.out.lt k hk).1)
          rw [← iv_snoc' _ k] at hown2
          have O3 : Hid (w3.ownsRow w.heap.size 3 1 v2 (rn (kn l big) n (k + 1)).length (iv (rn (kn l big) n (k + 1)))) := by unfold Hid; rw [HC.out]; simpa using hown2
          clear hown2 hgrow2 hfr2 HO HB B9
          go_wp2
          go_roundw
          case rel => exact ⟨k + 1, by go_num, by omega, O3.out, B3.out⟩
          case measure => simp [intOf]; omega
    · have hk1 : ¬ (k : Int) < (n : Int) := by omega
      obtain rfl : k = n := by omega
      go_wp2
      go_ret
      exact ⟨_, rfl, HO.out, HB.out⟩

end Go.Proofs.Ytgdhdegmjljbfaa
