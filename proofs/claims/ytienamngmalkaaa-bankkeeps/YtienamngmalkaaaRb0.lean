/- append up to 150000000000000 bytes, once more; quoinref15.ended and behind. -/
import Derived.Test.YtienamngmalkaaaRg1
namespace Go.Proofs.Ytienamngmalkaaa
open Go.RowKit

set_option maxRecDepth 8000
theorem run_bg {w : World} (ty base : Nat)
    (v : Value) (n : Nat) (xs : List Value) (hown : w.ownsRow base 5 1 v n xs)
    (u : Value) (m : Nat) (news : List Value) (hsrc : Srv w u m news) (hl : news.length = m)
    (h1 : ∀ u ∈ news, u.oneCell' = true) (hb : n + m ≤ 150000000000000) (hm : m ≤ 140737488355328 ∨ v.ownBlock ≠ none) (hbase : base ≤ w.heap.size) :
    ∃ v' w', (Builtin.append_ #[22, 22] ty #[v, u]).run Try.prog w = .ok v' w' ∧ w'.ownsRow base 5 1 v' (n + m) (xs ++ news) ∧ w.grownBy w' v.ownBlock ∧ (v'.ownBlock = v.ownBlock ∨ ∃ q, v'.ownBlock = some q ∧ w.heap.size ≤ q) := by
  obtain ⟨i5, hi5, hz5, hs5, hb5⟩ := info_parts info5
  have hx0 := hown.1
  rcases hsrc with ⟨hu, h0, h2⟩ | ⟨ad, c, hu, hcell⟩
  · subst hu h0 h2
    exact ⟨v, w, run_append_owned_none (P := Try.prog) (w := w) base 22 ty 5 i5 1 Try.underlying22 hi5 v n xs hown, by simpa using hown, ⟨rfl, rfl, rfl, Nat.le_refl _, fun _ _ _ => rfl⟩, .inl rfl⟩
  · subst hu
    by_cases hsm : n + m ≤ 140737488355328
    · obtain ⟨v', w', hr, h2, h3, h4, h5⟩ := run_append_own_at (P := Try.prog) w base 22 ty 5 i5 (.int .u8 0) 1 1 Try.underlying22 hi5 hz5 hs5 hb5 rfl (by decide) v n xs hown ad m c news (by omega) hcell h1 (by unfold maxLen; omega) (by omega) hbase
      refine ⟨v', w', hr, h2, h3, ?_⟩
      rcases h5 with e | e
      · exact .inl e
      · exact .inr ⟨_, e, Nat.le_refl _⟩
    · rcases hown.2 with ⟨hv, hn0⟩ | ⟨g, cap, cur, hv, hbg, hg, hnc, hcm, hcs, htake⟩
      · rcases hm with hm | hm
        · omega
        · rw [hv] at hm; exact absurd rfl hm
      · subst hv
        have hge := grownCap_ge w (n + m) cap 5
        have hcm2 := grownCap_le_maxLen w (n + m) cap 5 (by unfold maxLen; omega)
        by_cases hroom : n + m ≤ cap
        · have hr := run_append_room (P := Try.prog) w 22 ty 5 i5 Try.underlying22 hi5 g n cap cur hg ad m c news (by rw [hs5]; omega) hcell h1 hroom (by rw [hs5]; omega)
          rw [hs5] at hr
          refine ⟨_, _, hr, ⟨by simp; omega, .inr ⟨g, cap, _, rfl, hbg, setRow_heap w g cur _ 5 _ hg, hroom, hcm, ?_, ?_⟩⟩, grown_setRow _, .inl rfl⟩
          · simp only [List.size_toArray, List.length_append, List.length_take, List.length_drop, Array.length_toList]
            omega
          · rw [htake]
            exact List.take_left' (by simp; omega)
        · have hcells : ∀ j t, xs[j]? = some t → w.cell? ((⟨g, 0, none⟩ : Addr).add j) = some t := hown.cells rfl
          have hq := next_quarter (show cap < n + m by omega)
          have hr := run_append_grow (P := Try.prog) w 22 ty 5 i5 (.int .u8 0) Try.underlying22 hi5 hz5 ⟨g, 0, none⟩ n cap xs (by rw [hs5]; omega) hcells ad m c news (by rw [hs5]; omega) hcell (by omega) (by omega) (by rw [hb5]; omega)
          refine ⟨_, _, hr, ⟨by simp; omega, .inr ⟨w.heap.size, _, _, rfl, hbase, heap_alloc_new w.drew _, hge, hcm2, ?_, ?_⟩⟩, ⟨rfl, rfl, rfl, by simp, fun k hk _ => heap_alloc_old w.drew _ hk⟩, .inr ⟨w.heap.size, rfl, Nat.le_refl _⟩⟩
          · simp only [Array.size_append, List.size_toArray, size_zeroCells, Value.cells, hl]
            simp; omega
          · simp only [Array.toList_append, List.append_assoc]
            rw [← List.append_assoc]
            exact List.take_left' (by simp; omega)
theorem append_bg {w : World} {ops : Array Oper} {rest : List Oper} {o : Oper} {a : Act} {Q : Exit → Act → World → Prop} (hgd : o.guard = none) (s x : Operand)
    (ho : o.op = .call { callee := .builtin .append, args := #[s, x], argTypes := #[22, 22] }) (base : Nat)
    (v : Value) (n : Nat) (xs : List Value) (hs : a.eval s = v) (hown : w.ownsRow base 5 1 v n xs)
    (u : Value) (m : Nat) (news : List Value) (hx : a.eval x = u) (hsrc : Srv w u m news) (hl : news.length = m)
    (h1 : ∀ u ∈ news, u.oneCell' = true) (hb : n + m ≤ 150000000000000) (hm : m ≤ 140737488355328 ∨ v.ownBlock ≠ none) (hbase : base ≤ w.heap.size)
    (h : ∀ v' w', w'.ownsRow base 5 1 v' (n + m) (xs ++ news) → w.grownBy w' v.ownBlock → (v'.ownBlock = v.ownBlock ∨ ∃ q, v'.ownBlock = some q ∧ w.heap.size ≤ q) → wpList Try.prog ops Q rest (a.put o.dst v') w') :
    wpList Try.prog ops Q (o :: rest) a w := by
  refine wpList_plain hgd fun K hK => ?_
  obtain ⟨v', w', hr, h2, h3, h4⟩ := run_bg o.type base v n xs hown u m news hsrc hl h1 hb hm hbase
  unfold Oper.wp execOp
  simp only [ho, resolve, invoke, builtin, Sem.run_bind, Sem.run_pure, Result.andThen_ok, List.map_toArray, List.map_cons, List.map_nil, hs, hx, hr]
  exact hK _ _ (h v' w' h2 h3 h4)
theorem step_bg {w : World} {cc : Bool} {o : Oper} {a : Act} {K : Act → World → Prop} {Q : Exit → Act → World → Prop} {E : Prop} (hcc : cc = true) (s x : Operand)
    (ho : o.op = .call { callee := .builtin .append, args := #[s, x], argTypes := #[22, 22] }) (base : Nat)
    (v : Value) (n : Nat) (xs : List Value) (hs : a.eval s = v) (hown : w.ownsRow base 5 1 v n xs)
    (u : Value) (m : Nat) (news : List Value) (hx : a.eval x = u) (hsrc : Srv w u m news) (hl : news.length = m)
    (h1 : ∀ u ∈ news, u.oneCell' = true) (hb : n + m ≤ 150000000000000) (hm : m ≤ 140737488355328 ∨ v.ownBlock ≠ none) (hbase : base ≤ w.heap.size)
    (h : ∀ v' w', w'.ownsRow base 5 1 v' (n + m) (xs ++ news) → w.grownBy w' v.ownBlock → (v'.ownBlock = v.ownBlock ∨ ∃ q, v'.ownBlock = some q ∧ w.heap.size ≤ q) → K (a.put o.dst v') w') :
    if cc = true then Oper.wp Try.prog o a w K Q else E := by
  rw [if_pos hcc]
  obtain ⟨v', w', hr, h2, h3, h4⟩ := run_bg o.type base v n xs hown u m news hsrc hl h1 hb hm hbase
  unfold Oper.wp execOp
  simp only [ho, resolve, invoke, builtin, Sem.run_bind, Sem.run_pure, Result.andThen_ok, List.map_toArray, List.map_cons, List.map_nil, hs, hx, hr]
  exact h v' w' h2 h3 h4
set_option maxHeartbeats 2000000 in
/-- ended -/
theorem ended_any (ao : Option Addr) (n c : Nat) (l : List UInt8) (w : World) (HT : Hid (Tx w ao n c l)) (hn : n + 1 ≤ 150000000000000) :
    Calls Try.prog 35 #[.slice ao n c] w fun e w' => ∃ v, e = .returned v ∧ w'.ownsRow w.heap.size 5 1 v (wle l).length (bv (wle l)) ∧ v.ownBlock ≠ none ∧ Below w.heap.size w w' := by
  have hlen := Hid.mk' HT.out.len
  have O0 := Hid.mk' (own0 w)
  have TW := Hid.mk' ((HT.out.keep (bAlloc (Below.refl _ w) (.cells #[] 5))).srv)
  have hnI : (n : Int) ≤ 150000000000000 := by omega
  cases he : enl l with
  | true =>
    have hw : wle l = l := by unfold wle; rw [he]; rfl
    rw [hw, hlen.out]
    have h0 : 0 < n := by
      rcases Nat.eq_zero_or_pos n with h | h
      · have : l = [] := List.eq_nil_of_length_eq_zero (by rw [hlen.out]; exact h)
        rw [this] at he; cases he
      · exact h
    obtain ⟨g, o, rfl, hc⟩ := HT.out.at h0
    have hce := hc (n - 1) (by omega)
    have hlast : at8 l (n - 1) = 10 := by
      have := enl_at (t := l) (by rw [hlen.out]; exact h0)
      rw [he, hlen.out] at this; simpa using this.symm
    rw [hlast] at hce
    obtain ⟨k, hk⟩ : ∃ k, k = n - 1 := ⟨_, rfl⟩
    rw [← hk] at hce
    change w.cell? ⟨g, o + k, none⟩ = some (.int .u8 10) at hce
    have i0 : ((n : Int) == 0) = false := by simp; omega
    have i1 : IntKind.i64.wrap ((n : Int) - 1) = (k : Int) := by rw [IntKind.wrap_i64]; omega
    have i2 : (k : Int) < (n : Int) := by omega
    have i3 : (0 : Int) ≤ (k : Int) := by omega
    clear hk hlast hc he hw h0
    go_enter Try.func35, Try.ntmps35
    go_wp2_with (at_builtin; refine append_bg rfl (.tmp 20) (.tmp 21) rfl w.heap.size (.slice (some ⟨w.heap.size, 0, none⟩) 0 0) 0 [] rfl O0.out (.slice (some ⟨g, o, none⟩) n c) n (bv l) rfl TW.out (by rw [bv_length]; exact hlen.out) (bv_one _) (by omega) (.inr (by simp [Value.ownBlock])) (by simp) ?_)
    intro v4 w4 hown4 hgrow4 hfr4
    have HB4 : Hid (Below w.heap.size w w4) := (bAlloc' (Nat.le_refl _) _).grown hgrow4 (by simp) (fun k hk => by simp [Value.ownBlock] at hk; omega)
    have HO4 : Hid (w4.ownsRow w.heap.size 5 1 v4 n (bv l)) := by unfold Hid; simpa using hown4
    have HN4 : Hid (v4.ownBlock ≠ none) := fun h => by rcases hfr4 with e | ⟨q, e, _⟩ <;> rw [e] at h <;> simp [Value.ownBlock] at h
    clear hown4 hgrow4 hfr4
    go_wp2
    go_ret
    exact ⟨_, rfl, HO4.out, HN4.out, HB4.out⟩
  | false =>
    have hw : wle l = l ++ [10] := by unfold wle; rw [he]; rfl
    have hwl : (wle l).length = n + 1 := by rw [hw]; simp [hlen.out]
    have hbv : bv (wle l) = bv l ++ [.int .u8 10] := by rw [hw]; simp [bv]
    rw [hwl, hbv]
    have tailp : ∀ (P0 : Prop), P0 → P0 := fun _ h => h
    clear tailp hw hwl hbv
    rcases Nat.eq_zero_or_pos n with h0 | h0
    · subst h0
      go_enter Try.func35, Try.ntmps35
      go_wp2_with (at_builtin; refine append_bg rfl (.tmp 15) (.tmp 16) rfl w.heap.size (.slice (some ⟨w.heap.size, 0, none⟩) 0 0) 0 [] rfl O0.out (.slice ao 0 c) 0 (bv l) rfl TW.out (by rw [bv_length]; exact hlen.out) (bv_one _) (by omega) (.inr (by simp [Value.ownBlock])) (by simp) ?_)
      intro v4 w4 hown4 hgrow4 hfr4
      have HB4 : Hid (Below w.heap.size w w4) := (bAlloc' (Nat.le_refl _) _).grown hgrow4 (by simp) (fun k hk => by simp [Value.ownBlock] at hk; omega)
      have HO4 : Hid (w4.ownsRow w.heap.size 5 1 v4 0 (bv l)) := by unfold Hid; simpa using hown4
      have HN4 : Hid (v4.ownBlock ≠ none) := fun h => by rcases hfr4 with e | ⟨q, e, _⟩ <;> rw [e] at h <;> simp [Value.ownBlock] at h
      clear hown4 hgrow4 hfr4
      obtain ⟨a4, c4, hv4⟩ := own_shape HO4.out
      subst hv4
      have hs4 := HB4.out.size
      go_wp2_with (at_builtin; refine append_bg rfl (.tmp 17) (.tmp 18) rfl w.heap.size (.slice a4 0 c4) 0 (bv l) rfl (HO4.out.alloc _) (.slice (some ⟨w4.heap.size, 0, none⟩) 1 1) 1 [.int .u8 10] rfl (.inr ⟨⟨w4.heap.size, 0, none⟩, 1, rfl, fun j t hj => lit_cells w4 _ 5 j t hj⟩) rfl (by intro u hu; simp at hu; subst hu; rfl) hn (.inl (by omega)) (by simp; omega) ?_)
      intro v5 w5 hown5 hgrow5 hfr5
      have HB5 : Hid (Below w.heap.size w w5) := (HB4.out.alloc (by omega) _).grown hgrow5 (by simp; omega) (fun k hk => (HO4.out.lt k hk).1)
      have O5 := Hid.mk' hown5
      have HN5 : Hid (v5.ownBlock ≠ none) := fun h => by
        rcases hfr5 with e | ⟨q, e, _⟩
        · rw [e] at h; exact HN4.out h
        · rw [e] at h; cases h
      clear hown5 hgrow5 hfr5 hs4
      go_wp2
      go_ret
      exact ⟨_, rfl, O5.out, HN5.out, HB5.out⟩
    · obtain ⟨g, o, rfl, hc⟩ := HT.out.at h0
      have hce := hc (n - 1) (by omega)
      have hlast : ¬ at8 l (n - 1) = 10 := by
        have := enl_at (t := l) (by rw [hlen.out]; exact h0)
        rw [he, hlen.out] at this; simpa using this.symm
      obtain ⟨k, hk⟩ : ∃ k, k = n - 1 := ⟨_, rfl⟩
      obtain ⟨y, hy⟩ : ∃ y, y = at8 l (n - 1) := ⟨_, rfl⟩
      rw [← hk, show at8 l k = y by rw [hk]; exact hy.symm] at hce
      rw [← hy] at hlast
      have hy1 : ((y.toNat : Int) == 10) = false := by
        have : y.toNat ≠ 10 := fun e => hlast (UInt8.toNat_inj.1 (by rw [e]; rfl))
        simp; omega
      have hy2 : ¬ (y.toNat : Int) = 10 := by simpa using hy1
      have hy3 : ((y.toNat : Int) != 10) = true := by simpa using hy2
      have i0 : ((n : Int) == 0) = false := by simp; omega
      have i1 : IntKind.i64.wrap ((n : Int) - 1) = (k : Int) := by rw [IntKind.wrap_i64]; omega
      have i2 : (k : Int) < (n : Int) := by omega
      have i3 : (0 : Int) ≤ (k : Int) := by omega
      clear hk hlast hc he h0 hy
      go_enter Try.func35, Try.ntmps35
      go_wp2_with (at_builtin; refine append_bg rfl (.tmp 15) (.tmp 16) rfl w.heap.size (.slice (some ⟨w.heap.size, 0, none⟩) 0 0) 0 [] rfl O0.out (.slice (some ⟨g, o, none⟩) n c) n (bv l) rfl TW.out (by rw [bv_length]; exact hlen.out) (bv_one _) (by omega) (.inr (by simp [Value.ownBlock])) (by simp) ?_)
      intro v4 w4 hown4 hgrow4 hfr4
      have HB4 : Hid (Below w.heap.size w w4) := (bAlloc' (Nat.le_refl _) _).grown hgrow4 (by simp) (fun k hk => by simp [Value.ownBlock] at hk; omega)
      have HO4 : Hid (w4.ownsRow w.heap.size 5 1 v4 n (bv l)) := by unfold Hid; simpa using hown4
      have HN4 : Hid (v4.ownBlock ≠ none) := fun h => by rcases hfr4 with e | ⟨q, e, _⟩ <;> rw [e] at h <;> simp [Value.ownBlock] at h
      clear hown4 hgrow4 hfr4
      obtain ⟨a4, c4, hv4⟩ := own_shape HO4.out
      subst hv4
      have hs4 := HB4.out.size
      go_wp2_with (at_builtin; refine append_bg rfl (.tmp 17) (.tmp 18) rfl w.heap.size (.slice a4 n c4) n (bv l) rfl (HO4.out.alloc _) (.slice (some ⟨w4.heap.size, 0, none⟩) 1 1) 1 [.int .u8 10] rfl (.inr ⟨⟨w4.heap.size, 0, none⟩, 1, rfl, fun j t hj => lit_cells w4 _ 5 j t hj⟩) rfl (by intro u hu; simp at hu; subst hu; rfl) hn (.inl (by omega)) (by simp; omega) ?_)
      intro v5 w5 hown5 hgrow5 hfr5
      have HB5 : Hid (Below w.heap.size w w5) := (HB4.out.alloc (by omega) _).grown hgrow5 (by simp; omega) (fun k hk => (HO4.out.lt k hk).1)
      have O5 := Hid.mk' hown5
      have HN5 : Hid (v5.ownBlock ≠ none) := fun h => by
        rcases hfr5 with e | ⟨q, e, _⟩
        · rw [e] at h; exact HN4.out h
        · rw [e] at h; cases h
      clear hown5 hgrow5 hfr5 hs4
      go_wp2
      go_ret
      exact ⟨_, rfl, O5.out, HN5.out, HB5.out⟩
end Go.Proofs.Ytienamngmalkaaa
